"""[12]: canonical texts."""

import random
import unittest

from rerunrein.expressions import parse_condition, parse_expression, written
from tests import oracle
from tests.shallow import with_few_calls

EXPRESSIONS = (
    "0", "x", "-x", "--x", "-5", "-(a + b) * --c", "a - (b - c)", "a - b - c", "a + (b + c)", "a + b + c",
    "a * (b * c)", "a * b * c", "(a + b) * c", "a + b * c", "a * (b + c)", "a // (b // c)", "a // b // c",
    "a mod (b mod c)", "a mod b mod c", "a * (b mod c)", "-(a * b)", "-a * b", "a * -b", "a - -b", "a - (b + c)",
    "-(a - b)", "(a - b) // (c mod d)", "a + -(b + c) mod 7", "--(a + b)", "9" * 30,
)
CONDITIONS = (
    "a = 1", "a != 1", "a < 1", "a <= 1", "a > 1", "a >= 1", "a + b = b - -a", "not a = 1", "not not a = 1",
    "not [a = 1 or b = 2] and c < 0", "a = 1 or [b = 2 or c = 3]", "a = 1 or b = 2 or c = 3",
    "a = 1 and [b = 2 and c = 3]", "a = 1 and b = 2 and c = 3", "a = 1 or b = 2 and c = 3",
    "[a = 1 or b = 2] and c = 3", "a = 1 and b = 2 or c = 3", "a = 1 and [b = 2 or c = 3]", "not [a = 1 and b = 2]",
    "not a = 1 and not b = 2", "a = 1 and not b = 2 or not not c = 3", "not not [a = 1 or b = 2]",
)


def as_lists(source, node):
    """The node with some of its tuples, also inner ones, as lists."""
    if not isinstance(node, tuple):
        return node
    parts = [as_lists(source, part) for part in node]
    return parts if source.randrange(2) else tuple(parts)


def pairs_of_brackets(text):
    """The positions of the brackets that belong together."""
    pairs = []
    stack = []
    for at, character in enumerate(text):
        if character in "([":
            stack.append(at)
        elif character in ")]":
            pairs.append((stack.pop(), at))
    return pairs


class WrittenTest(unittest.TestCase):

    def test_canonical_texts_stay(self):
        for parse, texts in ((parse_expression, EXPRESSIONS), (parse_condition, CONDITIONS)):
            for text in texts:
                with self.subTest(text):
                    self.assertEqual(written(parse(text)), text)
                    self.assertEqual(written(node=parse(text)), text)

    def test_texts_become_canonical(self):
        for parse, text, canonical in (
            (parse_expression, " ( ( x ) ) ", "x"),
            (parse_expression, "- - x", "--x"),
            (parse_expression, "-(-(x))", "--x"),
            (parse_expression, "(a*b)+(c//d)", "a * b + c // d"),
            (parse_expression, "(a-b)-c", "a - b - c"),
            (parse_expression, "(a mod b)*c", "a mod b * c"),
            (parse_expression, "((a)-((b)-(c)))", "a - (b - c)"),
            (parse_expression, "(-a)*(-(b))", "-a * -b"),
            (parse_expression, "(-a)-(-b)", "-a - -b"),
            (parse_condition, "[a=1]", "a = 1"),
            (parse_condition, "(a)=(1)", "a = 1"),
            (parse_condition, "(a+b)<=(c*d)", "a + b <= c * d"),
            (parse_condition, "not[a=1]", "not a = 1"),
            (parse_condition, "[not[a=1]]and[b>=2]", "not a = 1 and b >= 2"),
            (parse_condition, "[a=1 and b=2]or[c=3 and d=4]", "a = 1 and b = 2 or c = 3 and d = 4"),
            (parse_condition, "[a=1 or b=2]or c=3", "a = 1 or b = 2 or c = 3"),
            (parse_condition, "[a=1 and b=2]and c=3", "a = 1 and b = 2 and c = 3"),
            (parse_condition, "not[not[a!=1]]", "not not a != 1"),
        ):
            with self.subTest(text):
                self.assertEqual(written(parse(text)), canonical)

    def check(self, source, parse, write, node):
        text = written(node)
        self.assertEqual(text, write(node))
        self.assertEqual(parse(text), node)
        self.assertEqual(written(as_lists(source, node)), text)

    def test_random_nodes(self):
        source = random.Random(12)
        for turn in range(1500):
            node = oracle.some_expression(source, source.randrange(5))[1]
            self.check(source, parse_expression, oracle.write_expression, node)
            node = oracle.some_condition(source, source.randrange(5))[1]
            self.check(source, parse_condition, oracle.write_condition, node)

    def test_no_pair_of_brackets_can_be_left_out(self):
        source = random.Random(13)
        for turn in range(300):
            node = oracle.some_condition(source, 3)[1]
            text = written(node)
            for begin, end in pairs_of_brackets(text):
                less = text[:begin] + text[begin + 1:end] + text[end + 1:]
                try:
                    self.assertNotEqual(parse_condition(less), node, (text, less))
                except ValueError:
                    pass

    def test_lists_are_not_changed(self):
        node = ["not", ["or", ["=", ["variable", "x"], ["number", 1]], ("<", ["negate", ["number", 2]], ["number", 3])]]
        self.assertEqual(written(node), "not [x = 1 or -2 < 3]")
        self.assertEqual(
            node,
            ["not", ["or", ["=", ["variable", "x"], ["number", 1]], ("<", ["negate", ["number", 2]], ["number", 3])]],
        )

    def test_deep_and_long_nodes(self):
        for text in ("x+" * 199 + "y", "x*" * 199 + "y", "-" * 40 + "x", "x-(" * 40 + "y" + ")" * 40):
            node = parse_expression(text)
            again = with_few_calls(written, node)
            self.assertEqual(again, oracle.write_expression(node))
            self.assertEqual(parse_expression(again), node)
        long_or = "x<y or " * 56 + "x<y"
        for text in ("not[" * 40 + "-(" * 40 + "x" + ")" * 40 + "=1" + "]" * 40, "not " * 40 + "x=1", long_or):
            node = parse_condition(text)
            again = with_few_calls(written, node)
            self.assertEqual(again, oracle.write_condition(node))
            self.assertEqual(parse_condition(again), node)

    def test_the_text_of_a_sum_may_be_longer_than_the_sum(self):
        node = parse_expression("x+" * 199 + "y")
        self.assertEqual(written(node), "x + " * 199 + "y")


if __name__ == "__main__":
    unittest.main()
