"""[13]: evaluate and holds."""

import random
import unittest

from rerunrein.errors import Fault
from rerunrein.expressions import evaluate, holds, parse_condition, parse_expression
from tests import oracle
from tests.shallow import with_few_calls

LARGEST = 10 ** 30 - 1


class ValuesTest(unittest.TestCase):

    def assert_value(self, text, worth, values=()):
        with self.subTest(text):
            found = evaluate(parse_expression(text), values)
            self.assertEqual(found, worth)
            self.assertIs(type(found), int)

    def assert_truth(self, text, truth, values=()):
        with self.subTest(text):
            self.assertIs(evaluate(parse_condition(text), values), truth)
            self.assertIs(holds(parse_condition(text), values), truth)

    def assert_fault(self, parse, text, reason, values=()):
        with self.subTest(text):
            node = parse(text)
            with self.assertRaises(Fault) as caught:
                evaluate(node, values)
            self.assertEqual(caught.exception.reason, reason)
            if parse == parse_condition:
                self.assertIs(holds(node, values), False)

    def test_plain_values(self):
        self.assert_value("7", 7)
        self.assert_value("x", 5, [("x", 5)])
        self.assert_value("2 - x * 3", -13, [("x", 5)])
        self.assert_value("(2 - x) * 3", -9, [("x", 5)])
        self.assert_value("10 - 4 - 3", 3)
        self.assert_value("--x", 5, [("x", 5)])

    def test_keywords(self):
        self.assertEqual(evaluate(node=parse_expression("x"), values=[("x", 3)]), 3)
        self.assertIs(holds(node=parse_condition("x = 3"), values=[("x", 3)]), True)

    def test_variables_without_a_pair_are_0(self):
        self.assert_value("x", 0)
        self.assert_value("x + y", 4, [("y", 4)])
        self.assert_truth("x = 0", True, [("y", 4)])

    def test_pairs_in_any_order_and_kind(self):
        for values in (
            [("x", 5), ("y", 2)], [("y", 2), ("x", 5)], (("x", 5), ("y", 2)), [["x", 5], ["y", 2]],
            (["y", 2], ("x", 5)), [("a", 1), ("y", 2), ("z", 0), ("x", 5)],
        ):
            self.assert_value("x * 10 + y", 52, values)
            self.assert_truth("x > y", True, values)

    def test_arguments_are_not_changed(self):
        node = ["+", ["variable", "x"], ("*", ["number", 2], ["variable", "y"])]
        values = [["y", 3], ("x", 1)]
        self.assertEqual(evaluate(node, values), 7)
        self.assertEqual(node, ["+", ["variable", "x"], ("*", ["number", 2], ["variable", "y"])])
        self.assertEqual(values, [["y", 3], ("x", 1)])
        condition = ["and", ["=", ["variable", "x"], ["number", 1]], ["not", ["<", ["number", 2], ["negate", ["number", 2]]]]]
        self.assertIs(evaluate(condition, values), True)
        self.assertIs(holds(condition, values), True)

    def test_division_with_all_signs(self):
        for left, right, quotient, rest in (
            (7, 2, 3, 1), (-7, 2, -4, 1), (7, -2, -4, -1), (-7, -2, 3, -1),
            (6, 2, 3, 0), (-6, 2, -3, 0), (6, -2, -3, 0), (-6, -2, 3, 0),
            (1, 5, 0, 1), (-1, 5, -1, 4), (1, -5, -1, -4), (-1, -5, 0, -1),
            (0, 5, 0, 0), (0, -5, 0, 0), (LARGEST, -1, -LARGEST, 0), (-LARGEST, 2, -(10 ** 30) // 2, 1),
        ):
            values = [("x", left), ("y", right)]
            self.assert_value("x // y", quotient, values)
            self.assert_value("x mod y", rest, values)
        self.assert_value("-7 // 2", -4)
        self.assert_value("-(7 // 2)", -3)

    def test_division_by_0(self):
        for text in ("1 // 0", "1 mod 0", "0 // 0", "0 mod 0", "x // y", "-1 mod (3 - 3)", "1 // -0"):
            self.assert_fault(parse_expression, text, "division", [("x", 4)])
            self.assert_fault(parse_condition, text + " = 0", "division", [("x", 4)])

    def test_results_of_30_and_31_digits(self):
        large = [("m", LARGEST), ("n", -LARGEST), ("h", 10 ** 15), ("k", 10 ** 14), ("p", 3 * 10 ** 29)]
        for text, worth in (
            ("m + 0", LARGEST), ("n - 0", -LARGEST), ("m - 1 + 1", LARGEST), ("m + n", 0), ("m - m", 0),
            ("h * k", 10 ** 29), ("-h * k", -(10 ** 29)), ("p * 3", 9 * 10 ** 29), ("m * 1", LARGEST),
            ("n + 1 - 1", -LARGEST), ("m * -1", -LARGEST), ("m // 1", LARGEST), ("m mod n", 0),
            ("m // n", -1), ("(h - 1) * (h + 1)", 10 ** 30 - 1), ("p + p + p", 9 * 10 ** 29),
        ):
            self.assert_value(text, worth, large)
        for text in (
            "m + 1", "1 + m", "n - 1", "n + -1", "m - -1", "m - n", "m + m", "h * h", "-h * h", "h * -h", "p * 4",
            "m * m", "n * n", "p + p + p + p", "m * 2", "-1 - m", "m + 1 - 1",
        ):
            self.assert_fault(parse_expression, text, "overflow", large)
            self.assert_fault(parse_condition, f"0 = {text}", "overflow", large)

    def test_negate_never_fails(self):
        self.assert_value("-m", -LARGEST, [("m", LARGEST)])
        self.assert_value("--m", LARGEST, [("m", LARGEST)])
        self.assert_value("-m", LARGEST, [("m", -LARGEST)])

    def test_comparisons(self):
        for sign, below, equal, above in (
            ("=", False, True, False), ("!=", True, False, True), ("<", True, False, False),
            ("<=", True, True, False), (">", False, False, True), (">=", False, True, True),
        ):
            self.assert_truth(f"1 {sign} 2", below)
            self.assert_truth(f"2 {sign} 2", equal)
            self.assert_truth(f"3 {sign} 2", above)
            self.assert_truth(f"-{LARGEST} {sign} {LARGEST}", below)

    def test_and_or_not(self):
        for left in (False, True):
            for right in (False, True):
                p, q = [f"0 = {0 if truth else 1}" for truth in (left, right)]
                self.assert_truth(f"{p} and {q}", left and right)
                self.assert_truth(f"{p} or {q}", left or right)
                self.assert_truth(f"not {p} or not {q}", not left or not right)
            self.assert_truth(f"not {p}", not left)
            self.assert_truth(f"not not {p}", left)

    def test_both_sides_are_evaluated(self):
        for text in (
            "0 = 0 or 1 // 0 = 0", "0 = 1 and 1 // 0 = 0", "1 // 0 = 0 or 0 = 0", "1 // 0 = 0 and 0 = 1",
            "0 = 0 and 1 mod 0 = 0", "0 = 1 or 1 mod 0 = 0", "not 1 // 0 = 0", "0 = 0 or [0 = 0 or 0 // 0 = 0]",
            "0 * (1 // 0) = 0",
        ):
            self.assert_fault(parse_condition, text, "division")

    def test_the_left_side_is_evaluated_first(self):
        large = [("m", LARGEST)]
        for parse, left, right in (
            (parse_expression, "1 // 0", "(m + 1)"), (parse_expression, "1 mod 0", "m * m"),
            (parse_condition, "1 // 0 = 1", "m + 1 = 0"), (parse_condition, "1 mod 0 < 0", "not m * m = 0"),
        ):
            words = ("and", "or") if parse == parse_condition else ("+", "-", "=", "!=", "<", "<=", ">", ">=")
            for word in words:
                chosen = parse_condition if word in ("=", "!=", "<", "<=", ">", ">=") else parse
                self.assert_fault(chosen, f"{left} {word} {right}", "division", large)
                self.assert_fault(chosen, f"{right} {word} {left}", "overflow", large)
        # The sides come ahead of the operator itself.
        self.assert_fault(parse_expression, "(m + 1) // 0", "overflow", large)
        self.assert_fault(parse_expression, "m * (1 // 0) * m", "division", large)
        self.assert_fault(parse_expression, "m * m * (1 // 0)", "overflow", large)
        self.assert_fault(parse_expression, "1 // (m + 1 - m - 1)", "overflow", large)

    def test_holds_is_false_where_evaluate_fails(self):
        self.assertIs(holds(parse_condition("1 // x = 0"), []), False)
        self.assertIs(holds(parse_condition("not 1 // x = 0"), []), False)
        self.assertIs(holds(parse_condition("1 // x = 1"), [("x", 1)]), True)
        self.assertIs(holds(parse_condition("1 // x = 2"), [("x", 1)]), False)

    def test_long_and_deep_nodes(self):
        for text, worth in (
            ("1+" * 199 + "1", 200), ("1-" * 199 + "1", -198), ("1*" * 199 + "x", 5), ("-" * 40 + "x", 5),
            ("-" * 39 + "x", -5), ("1-(" * 40 + "x" + ")" * 40, 5), ("x+" * 199 + "x", 1000),
        ):
            node = parse_expression(text)
            self.assertEqual(with_few_calls(evaluate, node, [("x", 5)]), worth)
        deep = parse_condition("not[" * 40 + "-(" * 40 + "x" + ")" * 40 + "=5" + "]" * 40)
        self.assertIs(with_few_calls(evaluate, deep, [("x", 5)]), True)
        self.assertIs(with_few_calls(holds, deep, [("x", 4)]), False)
        doubled = parse_expression("2*" * 99 + "2")
        self.assertEqual(with_few_calls(evaluate, parse_expression("2*" * 98 + "2"), []), 2 ** 99)
        with self.assertRaises(Fault) as caught:
            with_few_calls(evaluate, doubled, [])
        self.assertEqual(caught.exception.reason, "overflow")

    def test_random_nodes(self):
        source = random.Random(13)
        numbers = (0, 1, -1, 2, -3, 7, 10 ** 15, -(10 ** 15), 10 ** 29, LARGEST, -LARGEST)
        reasons = []
        for turn in range(4000):
            make = source.choice((oracle.some_expression, oracle.some_condition))
            node = make(source, source.randrange(4))[1]
            known = {name: source.choice(numbers) for name in ("x", "y", "z") if source.randrange(4)}
            expected = reason = None
            try:
                expected = oracle.value(node, known)
            except oracle.Failure as failure:
                reason = failure.reason
                reasons.append(reason)
            try:
                found = evaluate(node, list(known.items()))
                self.assertIsNone(reason, node)
                self.assertEqual(found, expected, node)
                self.assertIs(type(found), type(expected))
            except Fault as fault:
                self.assertEqual(fault.reason, reason, node)
            if make == oracle.some_condition:
                self.assertIs(holds(node, list(known.items())), expected is True)
        self.assertGreater(reasons.count("division"), 50)
        self.assertGreater(reasons.count("overflow"), 50)

    def test_the_same_call_returns_the_same(self):
        node = parse_expression("x * y - 3")
        values = [("x", 5), ("y", 6)]
        self.assertEqual(evaluate(node, values), evaluate(node, values))
        values.append(("z", 1))
        self.assertEqual(evaluate(node, values), 27)


if __name__ == "__main__":
    unittest.main()
