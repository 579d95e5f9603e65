"""[9], [10], [11]: tokens, grammar, and where a text goes wrong."""

import itertools
import random
import unittest

from rerunrein.errors import BadText, RerunError
from rerunrein.expressions import parse_condition, parse_expression
from tests import oracle
from tests.shallow import with_few_calls


def number(worth):
    return ("number", worth)


def variable(name):
    return ("variable", name)


A, B, C, X, Y = [variable(name) for name in "abcxy"]


class ParsingTest(unittest.TestCase):

    def assert_bad(self, parse, text, position):
        with self.subTest(text):
            with self.assertRaises(BadText) as caught:
                parse(text)
            self.assertEqual(caught.exception.position, position)
            self.assertIs(type(caught.exception.position), int)

    def assert_expression(self, text, node):
        with self.subTest(text):
            self.assertEqual(parse_expression(text), node)

    def assert_condition(self, text, node):
        with self.subTest(text):
            self.assertEqual(parse_condition(text), node)

    def test_examples_of_the_document(self):
        self.assert_expression("2 - x * 3", ("-", number(2), ("*", X, number(3))))
        self.assert_bad(parse_condition, "(x = 1)", 3)

    def test_keywords_and_kinds(self):
        self.assertEqual(parse_expression(text="x"), X)
        self.assertEqual(parse_condition(text="x = y"), ("=", X, Y))
        self.assertIs(type(parse_expression("x + y")), tuple)
        self.assertIs(type(parse_expression("7")[1]), int)

    def test_factors(self):
        self.assert_expression("0", number(0))
        self.assert_expression("x", X)
        self.assert_expression("-5", ("negate", number(5)))
        self.assert_expression("-0", ("negate", number(0)))
        self.assert_expression("--x", ("negate", ("negate", X)))
        self.assert_expression("- - x", ("negate", ("negate", X)))
        self.assert_expression("(x)", X)
        self.assert_expression("((x))", X)
        self.assert_expression("-(x)", ("negate", X))
        self.assert_expression("-(-x)", ("negate", ("negate", X)))

    def test_each_operator(self):
        for sign in ("+", "-", "*", "//", "mod"):
            self.assert_expression(f"a {sign} b", (sign, A, B))
        for sign in ("=", "!=", "<", "<=", ">", ">="):
            self.assert_condition(f"a {sign} b", (sign, A, B))
        equal = ("=", A, B)
        self.assert_condition("not a = b", ("not", equal))
        self.assert_condition("a = b and a = b", ("and", equal, equal))
        self.assert_condition("a = b or a = b", ("or", equal, equal))

    def test_operators_group_from_the_left(self):
        for one, other in itertools.product(("+", "-"), repeat=2):
            self.assert_expression(f"a {one} b {other} c", (other, (one, A, B), C))
        for one, other in itertools.product(("*", "//", "mod"), repeat=2):
            self.assert_expression(f"a {one} b {other} c", (other, (one, A, B), C))
        p, q, r = [("=", name, number(1)) for name in (A, B, C)]
        for word in ("and", "or"):
            self.assert_condition(f"a = 1 {word} b = 1 {word} c = 1", (word, (word, p, q), r))

    def test_what_binds_tighter(self):
        p, q, r = [("=", name, number(1)) for name in (A, B, C)]
        for low, high in itertools.product(("+", "-"), ("*", "//", "mod")):
            self.assert_expression(f"a {low} b {high} c", (low, A, (high, B, C)))
            self.assert_expression(f"a {high} b {low} c", (low, (high, A, B), C))
            self.assert_expression(f"(a {low} b) {high} c", (high, (low, A, B), C))
            self.assert_expression(f"-a {high} b", (high, ("negate", A), B))
            self.assert_expression(f"a {high} -b", (high, A, ("negate", B)))
            self.assert_expression(f"-a {low} -b", (low, ("negate", A), ("negate", B)))
        self.assert_condition("a = 1 or b = 1 and c = 1", ("or", p, ("and", q, r)))
        self.assert_condition("a = 1 and b = 1 or c = 1", ("or", ("and", p, q), r))
        self.assert_condition("a = 1 and [b = 1 or c = 1]", ("and", p, ("or", q, r)))
        self.assert_condition("[a = 1 or b = 1] and c = 1", ("and", ("or", p, q), r))
        self.assert_condition("not a = 1 and b = 1", ("and", ("not", p), q))
        self.assert_condition("not [a = 1 and b = 1]", ("not", ("and", p, q)))
        self.assert_condition("a = 1 and not b = 1 or c = 1", ("or", ("and", p, ("not", q)), r))
        self.assert_condition("not not a = 1", ("not", ("not", p)))
        self.assert_condition("a + b < b * c", ("<", ("+", A, B), ("*", B, C)))
        self.assert_condition("(a) + (b) < c", ("<", ("+", A, B), C))
        self.assert_condition("(a + b) < (c)", ("<", ("+", A, B), C))
        self.assert_condition("[[a = 1]]", p)
        self.assert_condition("[a = 1 or [b = 1]] or c = 1", ("or", ("or", p, q), r))

    def test_tokens_without_spaces(self):
        self.assert_expression("2-x*3", ("-", number(2), ("*", X, number(3))))
        self.assert_expression("x--y", ("-", X, ("negate", Y)))
        self.assert_expression("x---y", ("-", X, ("negate", ("negate", Y))))
        self.assert_expression("2mod3", ("mod", number(2), number(3)))
        self.assert_expression("2mod(x)mod 3", ("mod", ("mod", number(2), X), number(3)))
        self.assert_expression("xmody", variable("xmody"))
        self.assert_expression("ormod", variable("ormod"))
        self.assert_condition("notx=1", ("=", variable("notx"), number(1)))
        self.assert_condition("not(x)=1", ("not", ("=", X, number(1))))
        self.assert_condition("not-x=1", ("not", ("=", ("negate", X), number(1))))
        self.assert_condition("x=1and 2=y", ("and", ("=", X, number(1)), ("=", number(2), Y)))
        self.assert_condition("x=1or[y=2]or 3=x", ("or", ("or", ("=", X, number(1)), ("=", Y, number(2))), ("=", number(3), X)))
        self.assert_condition("x<-1", ("<", X, ("negate", number(1))))
        self.assert_condition("x<=-1", ("<=", X, ("negate", number(1))))
        self.assert_condition("x>=-(1)", (">=", X, ("negate", number(1))))
        self.assert_bad(parse_condition, "x=1andy=2", 3)
        self.assert_bad(parse_expression, "x2", 1)
        self.assert_bad(parse_expression, "2x", 1)
        self.assert_bad(parse_expression, "x mody", 2)
        self.assert_bad(parse_condition, "x=1 andy=2", 4)
        self.assert_bad(parse_condition, "notx", 4)

    def test_spaces(self):
        self.assert_expression("   x   ", X)
        self.assert_expression(" ( x )  +  y ", ("+", X, Y))
        self.assert_condition("  not  [  x  <=  1  ]  ", ("not", ("<=", X, number(1))))
        self.assert_bad(parse_condition, "x < = 1", 4)
        self.assert_bad(parse_condition, "x ! = 1", 2)
        self.assert_bad(parse_expression, "x / / 2", 2)
        self.assert_bad(parse_expression, "1 2", 2)
        self.assert_bad(parse_expression, "x y", 2)

    def test_signs_followed_by_other_signs(self):
        self.assert_bad(parse_condition, "x <== 1", 4)
        self.assert_bad(parse_condition, "x << 1", 3)
        self.assert_bad(parse_condition, "x <> 1", 3)
        self.assert_bad(parse_condition, "x =< 1", 3)
        self.assert_bad(parse_condition, "x => 1", 3)
        self.assert_bad(parse_condition, "x >== 1", 4)
        self.assert_bad(parse_condition, "x >> 1", 3)
        self.assert_bad(parse_condition, "x == 1", 3)
        self.assert_bad(parse_condition, "x !== 1", 4)
        self.assert_bad(parse_condition, "x =!= 1", 3)
        self.assert_bad(parse_condition, "x <!= 1", 3)
        self.assert_bad(parse_condition, "x <=<= 1", 4)
        self.assert_bad(parse_expression, "x ** y", 3)
        self.assert_bad(parse_expression, "x */ y", 3)
        self.assert_bad(parse_expression, "x //* y", 4)
        self.assert_bad(parse_expression, "x /// y", 4)
        self.assert_bad(parse_expression, "x //// y", 4)
        self.assert_bad(parse_expression, "x +- + y", 5)

    def test_signs_that_are_no_tokens_alone(self):
        for text in ("!", "/", " !", "/ ", "!x = 1", "/2"):
            position = len(text) - len(text.lstrip())
            self.assert_bad(parse_expression, text, position)
            self.assert_bad(parse_condition, text, position)
        self.assert_bad(parse_expression, "x / y", 2)
        self.assert_bad(parse_expression, "x /", 2)
        self.assert_bad(parse_expression, "x/y", 1)
        self.assert_bad(parse_condition, "x !", 2)
        self.assert_bad(parse_condition, "x !< 1", 2)
        self.assert_bad(parse_condition, "x = 1 ! y", 6)

    def test_integers(self):
        most = "9" * 30
        self.assert_expression(most, number(10 ** 30 - 1))
        self.assert_expression("1" + "0" * 29, number(10 ** 29))
        self.assert_expression(f"-{most}", ("negate", number(10 ** 30 - 1)))
        self.assert_expression("10", number(10))
        self.assert_bad(parse_expression, "9" * 31, 0)
        self.assert_bad(parse_expression, "1" + "0" * 30, 0)
        self.assert_bad(parse_expression, "x + " + "1" * 31, 4)
        self.assert_bad(parse_expression, "x + " + "1" * 31 + "y", 4)
        self.assert_bad(parse_expression, "00", 0)
        self.assert_bad(parse_expression, "01", 0)
        self.assert_bad(parse_expression, "x - 007", 4)
        self.assert_bad(parse_expression, "x * 0" + "1" * 29, 4)
        self.assert_bad(parse_condition, "x = 05", 4)

    def test_runs_of_letters(self):
        self.assert_expression("abcdefgh", variable("abcdefgh"))
        self.assert_expression("z", variable("z"))
        self.assert_expression("zzzzzzzz", variable("zzzzzzzz"))
        self.assert_bad(parse_expression, "abcdefghi", 0)
        self.assert_bad(parse_expression, "x + abcdefghi", 4)
        self.assert_bad(parse_expression, "z" * 40, 0)
        self.assert_bad(parse_expression, "X", 0)
        self.assert_bad(parse_expression, "xY", 1)
        self.assert_bad(parse_expression, "x_y", 1)

    def test_reserved_words(self):
        for word in oracle.RESERVED:
            # A word that is no token and a word that does not fit stand at the same place here.
            self.assert_bad(parse_expression, word, 0)
            self.assert_bad(parse_expression, f"x + {word}", 4)
            self.assert_bad(parse_expression, f"-{word}", 1)
            self.assert_bad(parse_condition, f"x = {word}", 4)
            if word != "mod":
                self.assert_bad(parse_expression, f"x {word} y", 2)
            if word != "not":
                self.assert_bad(parse_condition, f"{word} x = 1", 0)
            if word not in ("and", "or"):
                self.assert_bad(parse_condition, f"x = 1 {word} y = 2", 6 if word != "mod" else 12)
            self.assert_expression(f"{word[:6]}xx", variable(f"{word[:6]}xx"))

    def test_reserved_words_that_are_no_tokens_come_first(self):
        # "mod" is a token that does not fit, "set" is none; the earlier one counts.
        self.assert_bad(parse_expression, "x mod mod set", 6)
        self.assert_bad(parse_expression, "x mod set mod", 6)
        self.assert_bad(parse_expression, "x set mod", 2)
        self.assert_bad(parse_expression, "set x", 0)

    def test_characters_that_begin_no_token(self):
        others = [chr(code) for code in range(32, 127)]
        for character in others:
            if character in "abcdefghijklmnopqrstuvwxyz0123456789 +-*/()[]=!<>":
                continue
            self.assert_bad(parse_expression, character, 0)
            self.assert_bad(parse_expression, f"x{character}", 1)
            self.assert_bad(parse_expression, f"x + {character}y", 4)
            self.assert_bad(parse_condition, f"x = 1 {character}", 6)
            # Ahead of a token that does not fit, and behind it.
            self.assert_bad(parse_expression, f"x {character} )", 2)
            self.assert_bad(parse_expression, f"x ) {character}", 2)
            self.assert_bad(parse_condition, f"{character} (x = 1)", 0)
            self.assert_bad(parse_condition, f"(x = 1) {character}", 3)
            # Ahead of the end of a text that ends too early.
            self.assert_bad(parse_expression, f"x + {character} +", 4)
            self.assert_bad(parse_expression, f"(x {character}", 3)

    def test_texts_that_end_too_early(self):
        for text in ("", " ", "     "):
            self.assert_bad(parse_expression, text, len(text))
            self.assert_bad(parse_condition, text, len(text))
        for text in ("x +", "x + ", "-", "--", "(", "(x", "(x ", "((x)", "x mod", "x //", "x * (", "-(y"):
            self.assert_bad(parse_expression, text, len(text))
            self.assert_bad(parse_condition, text, len(text))
        for text in (
            "x", "x ", "(x)", "x + 1", "x =", "x = ", "x <=  ", "x = 1 and", "x = 1 or ", "not", "not not",
            "[", "[x", "[x = 1", "[x = 1 ", "[[x = 1]", "[x = 1] and", "[x = 1] or not", "x = (", "x = -",
        ):
            self.assert_bad(parse_condition, text, len(text))

    def test_tokens_that_do_not_fit(self):
        for text, position in (
            ("x = 1", 2), ("x and y", 2), ("[x]", 0), ("not x", 0), (")", 0), ("()", 1), ("(x))", 3),
            ("x)", 1), ("(x]", 2), ("x]", 1), ("+x", 0), ("*x", 0), ("x + * y", 4), ("x + not", 4),
            ("(x) (y)", 4), ("(x) y", 4), ("3 (x)", 2), ("x (y)", 2), ("(x < y)", 3), ("- + x", 2), ("=", 0),
            ("x + [", 4), ("(or)", 1), ("(x mod)", 6), ("x < <", 2),
        ):
            self.assert_bad(parse_expression, text, position)
        for text, position in (
            ("1 < 2 < 3", 6), ("x = y = 1", 6), ("[x = 1] = 1", 8), ("[x = 1] + 1", 8), ("[x]", 2),
            ("[x + 1] = 2", 6), ("(x = 1)", 3), ("([x = 1])", 1), ("x and y = 1", 2), ("x or", 2), ("x not = 1", 2),
            ("x = not 1", 4), ("x = [1]", 4), ("[x = 1)", 6), ("[x = (1]", 7), ("x = 1]", 5), ("x = 1 ]", 6),
            ("[x = 1]]", 7), ("x = 1)", 5), ("[]", 1), ("x = 1 not y = 2", 6), ("x = 1 [y = 2]", 6),
            ("[x = 1][y = 2]", 7), ("[x = 1] not", 8), ("[x = 1] x", 8), ("x = 1 and and y = 2", 10),
            ("x = 1 and or y = 2", 10), ("not and", 4), ("x = 1 y", 6), ("x = 1 (", 6), ("- not x = 1", 2),
            ("-[x = 1]", 1), ("(not x = 1)", 1), ("(x and", 3), ("[x = 1] mod 2 = 1", 8), ("= 1", 0), ("x = = 1", 4),
            ("[x = 1 and y]", 12), ("[(x]", 3), ("[(x = 1)]", 4), ("x = 1 or y or z = 1", 11), ("not [x = 1] = 1", 12),
        ):
            self.assert_bad(parse_condition, text, position)

    def test_deep_texts(self):
        # The number of calls within one another must not grow with the text.
        many = 40
        text = "not[" * many + "-(" * many + "x" + ")" * many + "=1" + "]" * many
        node = X
        for level in range(many):
            node = ("negate", node)
        node = ("=", node, number(1))
        for level in range(many):
            node = ("not", node)
        self.assertLessEqual(len(text), 400)
        self.assertEqual(with_few_calls(parse_condition, text), node)
        self.assertEqual(with_few_calls(parse_expression, "(" * many + "x" + ")" * many), X)
        self.assertEqual(with_few_calls(parse_condition, "[" * many + "x<y" + "]" * many), ("<", X, Y))
        for open_ones in ("(" * 400, "-" * 400, "(-" * 200):
            self.assert_bad(lambda text: with_few_calls(parse_expression, text), open_ones, 400)
        for open_ones in ("[" * 400, "not " * 100, "not[" * 100, "[(" + "-" * 398):
            self.assert_bad(lambda text: with_few_calls(parse_condition, text), open_ones, 400)
        closed_too_often = "(" * many + "x" + ")" * (many + 1)
        self.assert_bad(parse_expression, closed_too_often, len(closed_too_often) - 1)
        mixed = "[" * many + "(" * many + "x" + ")" * many + "=" + "-" * many + "1" + "]" * (many - 1)
        self.assert_bad(parse_condition, mixed, len(mixed))
        self.assertEqual(parse_condition(mixed + "]")[0:2], ("=", X))

    def test_right_nested_texts(self):
        many = 40
        node = B
        for level in range(many):
            node = ("-", A, node)
        self.assert_expression("a-(" * many + "b" + ")" * many, node)
        p, q = ("=", A, A), ("=", B, B)
        node = q
        for level in range(many):
            node = ("or", p, node)
        self.assert_condition("a=a or[" * many + "b=b" + "]" * many, node)

    def test_long_texts(self):
        for sign in ("+", "-", "*"):
            text = f"x{sign}" * 199 + "y"
            self.assertEqual(len(text), 399)
            node = X
            for level in range(199):
                node = (sign, node, Y if level == 198 else X)
            self.assertEqual(with_few_calls(parse_expression, text), node)
            self.assert_bad(parse_expression, text + sign, 400)
            self.assert_bad(parse_expression, text + ")", 399)
            self.assert_bad(parse_expression, text + "!", 399)
        text = "x<y or " * 56 + "x<y"
        node = ("<", X, Y)
        for level in range(56):
            node = ("or", node, ("<", X, Y))
        self.assertEqual(with_few_calls(parse_condition, text), node)

    def test_random_valid_texts(self):
        source = random.Random(11)
        for turn in range(1500):
            words, node = oracle.some_expression(source, source.randrange(4))
            text = oracle.spaced(source, words)
            self.assert_expression(text, node)
            words, node = oracle.some_condition(source, source.randrange(4))
            text = oracle.spaced(source, words)
            self.assert_condition(text, node)

    def compare_with_oracle(self, text):
        for start, parse in (("expression", parse_expression), ("condition", parse_condition)):
            found = None
            try:
                parse(text)
            except RerunError as error:
                self.assertIs(type(error), BadText)
                found = error.position
            self.assertEqual(found, oracle.bad_position(start, text), (start, text))

    def test_all_short_rows_of_tokens(self):
        words = ("x", "1", "-", "*", "(", ")", "[", "]", "=", "and", "or", "not")
        for length in range(4):
            for row in itertools.product(words, repeat=length):
                self.compare_with_oracle(" ".join(row))

    def test_random_texts_with_changes(self):
        source = random.Random(9)
        pieces = oracle.RESERVED + list("+-*/()[]=!<>xyz019 ") + [
            "//", "!=", "<=", ">=", "00", "abcdefghi", "$", "A", "1" * 31, "&", ".",
        ]
        for turn in range(2500):
            words, node = source.choice((oracle.some_expression, oracle.some_condition))(source, 3)
            words = words[:25]
            for change in range(source.randrange(3)):
                at = source.randrange(len(words) + 1)
                words[at:at + source.randrange(2)] = [source.choice(pieces)]
            self.compare_with_oracle(source.choice(("", " ", " ")).join(words))


if __name__ == "__main__":
    unittest.main()
