"""[4], [5], [8], [9], [22]: names, integers, recorded events, and lists turned into tuples."""

import unittest

from rerunrein.common import assigned, frozen, is_integer, is_name, is_number, is_plain, is_value, read_integer
from tests.oracle import RESERVED


class CommonTest(unittest.TestCase):

    def test_names(self):
        for thing in ("a", "z", "abcdefgh", "zzzzzzzz", "inputs", "an", "ands", "fi", "rec", "taken"):
            with self.subTest(thing):
                self.assertIs(is_name(thing), True)
        for thing in ("", " ", "a ", " a", "a b", "abcdefghi", "A", "aB", "a1", "1", "a_b", "a-b", "\u00e9", "a\n", "\n"):
            with self.subTest(thing):
                self.assertIs(is_name(thing), False)
        for word in RESERVED:
            with self.subTest(word):
                self.assertIs(is_name(word), False)

    def test_names_are_strings(self):
        for thing in (None, 0, 5, True, (), [], ("a",), ["a"], [["a"], "b"], ("and",)):
            with self.subTest(thing):
                self.assertIs(is_name(thing), False)

    def test_numbers(self):
        for text in ("0", "1", "9", "10", "100", "9" * 30, "1" + "0" * 29):
            with self.subTest(text):
                self.assertIs(is_number(text), True)
        for text in (
            "", "00", "01", "007", "-1", "-0", "+1", "1 ", " 1", "1.0", "1_0", "x", "1x", "1" * 31, "0" * 30, "\u0663",
            "1\n", "\u00b2",
        ):
            with self.subTest(text):
                self.assertIs(is_number(text), False)

    def test_integers_as_texts(self):
        for text in ("0", "1", "10", "9" * 30, "-1", "-10", "-" + "9" * 30):
            with self.subTest(text):
                self.assertEqual(read_integer(text), int(text))
        for text in (
            "", "-", "-0", "--1", "- 1", "-01", "00", "+1", "1-", "-1 ", " -1", "x", "-x", "1" * 31, "-" + "1" * 31,
        ):
            with self.subTest(text):
                self.assertIsNone(read_integer(text))

    def test_integers(self):
        for thing in (0, 1, -1, 10 ** 30 - 1, 1 - 10 ** 30):
            self.assertIs(is_integer(thing), True)
            self.assertIs(is_value(thing), True)
        for thing in (10 ** 30, -10 ** 30):
            self.assertIs(is_integer(thing), True)
            self.assertIs(is_value(thing), False)
        for thing in (True, False, None, "1", (), (1,), [1]):
            self.assertIs(is_integer(thing), False)
            self.assertIs(is_value(thing), False)

    def test_assigned(self):
        self.assertEqual(assigned(("set", "x", 5)), ("x", 5))
        self.assertEqual(assigned(("input", "x", 5)), ("x", 5))
        self.assertEqual(assigned(("receive", "b", "x", 5)), ("x", 5))
        self.assertEqual(assigned(("take", "b", "x", 5)), ("x", 5))
        self.assertIsNone(assigned(("send", "b", 5)))
        self.assertIsNone(assigned(("checkpoint",)))

    def test_frozen(self):
        inner = [1, [2, (3, [])]]
        self.assertEqual(frozen(inner), (1, (2, (3, ()))))
        self.assertEqual(inner, [1, [2, (3, [])]])
        for thing in (None, 0, True, "", "ab", (), (1, ("x", None, False))):
            with self.subTest(thing):
                self.assertEqual(frozen(thing), thing)
                self.assertIs(type(frozen(thing)), type(thing))

    def test_plain(self):
        for thing in (None, 0, 1, -5, "", "True", (), (1, ("x", None)), ((), ((1,), "a"))):
            with self.subTest(thing):
                self.assertIs(is_plain(thing), True)
        for thing in (True, False, [], [1], (1, True), (1, []), ((("x", 1), (2, (False,))),), (0, (1, ([],)))):
            with self.subTest(thing):
                self.assertIs(is_plain(thing), False)
        deep = True
        for level in range(100000):
            deep = (1, deep)
        self.assertIs(is_plain(deep), False)


if __name__ == "__main__":
    unittest.main()
