"""[14], [16]: programs that are valid, and the methods of Program."""

import unittest

from rerunrein.errors import UnknownProcess
from rerunrein.expressions import parse_condition, parse_expression
from rerunrein.programs import Program, parse_program
from tests.program_oracle import expected_lines, expected_rows
from tests.shallow import with_few_calls

SAMPLE = [
    "process a",
    "set x  1+ 2 ",
    "send b x*-3",
    "receive y b",
    "take z",
    "input n",
    "checkpoint",
    "if x=1",
    "checkpoint",
    "else",
    "set x 0",
    "end",
    "while  not[x<y]",
    "if x = 2",
    "end",
    "end",
    "process b",
    "receive x a",
    "process c",
]


def number(worth):
    return ("number", worth)


def variable(name):
    return ("variable", name)


class ProgramsTest(unittest.TestCase):

    def test_each_form_of_line(self):
        program = parse_program(SAMPLE)
        self.assertIs(type(program), Program)
        self.assertEqual(program.names(), ("a", "b", "c"))
        self.assertEqual(program.body("a"), (
            ("set", "x", ("+", number(1), number(2))),
            ("send", "b", ("*", variable("x"), ("negate", number(3)))),
            ("receive", "y", "b"),
            ("take", "z"),
            ("input", "n"),
            ("checkpoint",),
            ("if", ("=", variable("x"), number(1)), (("checkpoint",),), (("set", "x", number(0)),)),
            ("while", ("not", ("<", variable("x"), variable("y"))), (("if", ("=", variable("x"), number(2)), (), ()),)),
        ))
        self.assertEqual(program.body("b"), (("receive", "x", "a"),))
        self.assertEqual(program.body("c"), ())

    def test_canonical_lines(self):
        self.assertEqual(parse_program(SAMPLE).lines(), [
            "process a", "set x 1 + 2", "send b x * -3", "receive y b", "take z", "input n", "checkpoint",
            "if x = 1", "checkpoint", "else", "set x 0", "end", "while not x < y", "if x = 2", "end", "end",
            "process b", "receive x a", "process c",
        ])

    def test_keywords(self):
        program = parse_program(lines=["process a", "checkpoint"])
        self.assertEqual(program.body(name="a"), (("checkpoint",),))

    def test_lines_as_list_or_tuple(self):
        self.assertEqual(parse_program(SAMPLE), parse_program(tuple(SAMPLE)))

    def test_names_in_order_and_their_kinds(self):
        program = parse_program(["process b", "process z", "process a"])
        self.assertEqual(program.names(), ("b", "z", "a"))
        self.assertIs(type(program.names()), tuple)
        self.assertIs(type(program.body("z")), tuple)
        self.assertIs(type(program.lines()), list)

    def test_a_process_and_a_variable_may_have_the_same_name(self):
        program = parse_program(["process a", "set b b", "send b b", "receive a b", "process b", "set b 1"])
        self.assertEqual(program.body("a"), (
            ("set", "b", variable("b")), ("send", "b", variable("b")), ("receive", "a", "b"),
        ))

    def test_a_process_may_be_named_ahead_of_its_line(self):
        program = parse_program(["process a", "send c 1", "receive x b", "process b", "process c"])
        self.assertEqual(program.body("a"), (("send", "c", number(1)), ("receive", "x", "b")))

    def test_names_of_8_letters(self):
        lines = ["process abcdefgh", "take zzzzzzzz", "process z"]
        self.assertEqual(parse_program(lines).lines(), lines)

    def test_rests_with_spaces_anywhere(self):
        for text in ("x+1", " x + 1", "x + 1 ", "   x+ 1   ", "x   +   1"):
            with self.subTest(text):
                program = parse_program(["process a", "set x " + text, "send b " + text, "process b"])
                node = parse_expression("x + 1")
                self.assertEqual(program.body("a"), (("set", "x", node), ("send", "b", node)))
        for text in ("x=1", " x = 1", "x = 1 ", "   x= 1   ", "[x=1]", " [ (x) = 1 ] "):
            with self.subTest(text):
                program = parse_program(["process a", "if " + text, "end", "while " + text, "end"])
                node = parse_condition("x = 1")
                self.assertEqual(program.body("a"), (("if", node, (), ()), ("while", node, ())))

    def test_empty_parts(self):
        one = parse_condition("x = 1")
        take = ("take", "x")
        for lines, statement, canonical in (
            (["if x=1", "end"], ("if", one, (), ()), ["if x = 1", "end"]),
            (["if x=1", "else", "end"], ("if", one, (), ()), ["if x = 1", "end"]),
            (["if x=1", "take x", "else", "end"], ("if", one, (take,), ()), ["if x = 1", "take x", "end"]),
            (["if x=1", "else", "take x", "end"], ("if", one, (), (take,)), ["if x = 1", "else", "take x", "end"]),
            (["while x=1", "end"], ("while", one, ()), ["while x = 1", "end"]),
            (
                ["if x=1", "if x=1", "else", "end", "else", "if x=1", "else", "end", "end"],
                ("if", one, (("if", one, (), ()),), (("if", one, (), ()),)),
                ["if x = 1", "if x = 1", "end", "else", "if x = 1", "end", "end"],
            ),
        ):
            with self.subTest(lines):
                program = parse_program(["process a"] + lines)
                self.assertEqual(program.body("a"), (statement,))
                self.assertEqual(program.lines(), ["process a"] + canonical)

    def test_blocks_within_blocks(self):
        lines = [
            "process a", "while x < 3", "if x = 1", "take y", "else", "while y > 0", "set y y - 1", "end",
            "checkpoint", "end", "set x x + 1", "end", "input x",
            "process b", "if y = 0", "if x = 0", "send a 1", "end", "else", "send a 2", "end",
        ]
        program = parse_program(lines)
        self.assertEqual([(name, program.body(name)) for name in program.names()], expected_rows(lines))
        self.assertEqual(program.lines(), lines)

    def test_blocks_nested_20_deep(self):
        for opening in (["if x = 1"] * 20, ["while x = 1"] * 20, ["if x = 1", "while x = 1"] * 10):
            lines = ["process a"] + opening + ["checkpoint"] + ["end"] * 20
            self.assertEqual(parse_program(lines).lines(), lines)
            self.assertEqual(parse_program(lines).body("a"), expected_rows(lines)[0][1])
        # Blocks that are closed do not count, and an else is not a deeper block.
        lines = ["process a"] + ["if x = 1", "end"] * 30 + ["if x = 1", "else"] * 20 + ["take x"] + ["end"] * 20
        self.assertEqual(parse_program(lines).lines(), lines)

    def test_400_lines(self):
        lines = ["process a"] + ["checkpoint"] * 399
        self.assertEqual(parse_program(lines).lines(), lines)
        self.assertEqual(len(parse_program(lines).body("a")), 399)

    def test_40_processes(self):
        names = ["p" + letter for letter in "abcdefghijklmnopqrstuvwxyz"] + ["q" + letter for letter in "abcdefghijklmn"]
        lines = ["process " + name for name in names]
        self.assertEqual(parse_program(lines).names(), tuple(names))
        self.assertEqual(len(names), 40)

    def test_unknown_process(self):
        program = parse_program(SAMPLE)
        for name in ("x", "aa", "", "A", "process", "process a", "a "):
            with self.subTest(name):
                with self.assertRaises(UnknownProcess) as caught:
                    program.body(name)
                self.assertEqual(caught.exception.name, name)
        with self.assertRaises(UnknownProcess) as caught:
            program.body(["a", ["b"]])
        self.assertEqual(caught.exception.name, ("a", ("b",)))

    def test_what_was_passed_is_changed_afterwards(self):
        lines = list(SAMPLE)
        program = parse_program(lines)
        self.assertEqual(lines, SAMPLE)
        lines[1] = "set x 7"
        lines.append("process d")
        self.assertEqual(program, parse_program(SAMPLE))
        self.assertEqual(program.names(), ("a", "b", "c"))
        self.assertEqual(program.lines(), parse_program(SAMPLE).lines())
        lines.clear()
        self.assertEqual(program, parse_program(SAMPLE))

    def test_what_was_returned_is_changed_afterwards(self):
        program = parse_program(SAMPLE)
        first = program.lines()
        expected = list(first)
        self.assertIsNot(first, program.lines())
        first.append("process d")
        first[0] = "process z"
        self.assertEqual(program.lines(), expected)
        program.lines().clear()
        self.assertEqual(program.lines(), expected)
        self.assertEqual(program, parse_program(SAMPLE))

    def test_canonical_lines_read_again(self):
        program = parse_program(SAMPLE)
        again = parse_program(program.lines())
        self.assertEqual(again, program)
        self.assertEqual(again.lines(), program.lines())
        self.assertEqual(program.lines(), expected_lines(expected_rows(SAMPLE)))

    def test_equal_programs(self):
        program = parse_program(["process a", "set x 1 + 2", "if x = 1", "end", "process b"])
        for lines in (
            ["process a", "set x 1 + 2", "if x = 1", "end", "process b"],
            ["process a", "set x (1)+(2)", "if [x=1]", "end", "process b"],
            ["process a", "set x 1 + 2", "if x = 1", "else", "end", "process b"],
        ):
            with self.subTest(lines):
                self.assertTrue(program == parse_program(lines))
                self.assertFalse(program != parse_program(lines))

    def test_programs_that_are_not_equal(self):
        program = parse_program(["process a", "set x 1 + 2", "if x = 1", "end", "process b"])
        for lines in (
            ["process a", "set x 2 + 1", "if x = 1", "end", "process b"],
            ["process a", "set y 1 + 2", "if x = 1", "end", "process b"],
            ["process a", "set x 1 + 2", "while x = 1", "end", "process b"],
            ["process a", "set x 1 + 2", "if x = 1", "checkpoint", "end", "process b"],
            ["process a", "set x 1 + 2", "if x = 1", "else", "checkpoint", "end", "process b"],
            ["process a", "set x 1 + 2", "if x = 1", "end"],
            ["process a", "set x 1 + 2", "if x = 1", "end", "process c"],
            ["process a", "set x 1 + 2", "if x = 1", "end", "process b", "process c"],
            ["process b", "process a", "set x 1 + 2", "if x = 1", "end"],
            ["process a", "process b", "set x 1 + 2", "if x = 1", "end"],
            ["process a", "set x 1 + 2", "if x = 1", "end", "process b", "checkpoint"],
        ):
            with self.subTest(lines):
                self.assertFalse(program == parse_program(lines))
                self.assertTrue(program != parse_program(lines))

    def test_a_program_equals_no_other_object(self):
        program = parse_program(["process a"])

        class EqualToAll:
            def __eq__(self, other):
                return True

        class Other:
            rows = (("a", ()),)
            texts = ("process a",)

            def names(self):
                return ("a",)

            def body(self, name):
                return ()

            def lines(self):
                return ["process a"]

        for other in (None, 0, "process a", ["process a"], ("process a",), ("a",), (("a", ()),), Other(), EqualToAll()):
            self.assertFalse(program == other)
            self.assertTrue(program != other)

    def test_long_expressions(self):
        lines = ["process a", "set x " + "1+" * 199 + "1", "if " + "not[" * 40 + "x=1" + "]" * 40, "end"]
        program = with_few_calls(parse_program, lines)
        self.assertEqual(program.body("a")[0][2], parse_expression("1+" * 199 + "1"))
        self.assertEqual(with_few_calls(program.lines)[1], "set x " + "1 + " * 199 + "1")
        self.assertTrue(with_few_calls(lambda: program == parse_program(lines)))
        lines[1] = lines[1] + "*2"
        self.assertTrue(with_few_calls(lambda: program != parse_program(lines)))


if __name__ == "__main__":
    unittest.main()
