"""[14], [15]: lines that are no program, and the order of the checks."""

import random
import unittest

from rerunrein.errors import BadProgram
from rerunrein.programs import parse_program
from tests.oracle import RESERVED
from tests.program_oracle import expected_error, expected_lines, expected_rows

# A line of each form; each of them alone is in order in the process a beside b, blocks aside.
FORMS = (
    "process c", "set x 1", "send b 1", "receive x b", "take x", "input x", "checkpoint", "if x = 1",
    "while x = 1", "else", "end",
)


class BadProgramsTest(unittest.TestCase):

    def assert_bad(self, lines, line, reason):
        with self.subTest(lines=lines[:12]):
            with self.assertRaises(BadProgram) as caught:
                parse_program(lines)
            self.assertEqual((caught.exception.line, caught.exception.reason), (line, reason))
            self.assertIs(type(caught.exception.line), int)

    def assert_no_form(self, text):
        self.assert_bad(["process a", text, "process b"], 1, "line")

    def test_forms_with_a_word_too_many_or_too_few(self):
        for text in (
            "process", "process c d", "process c process d", "take", "take x y", "take x from b", "input", "input x 5",
            "input 5", "receive x", "receive", "receive x b c", "receive x 5 from b", "receive b", "checkpoint x",
            "checkpoint checkpoint", "else if x = 1", "else x", "end if", "end end", "set", "set x", "set 5",
            "set x x y", "set x = 5", "send", "send b", "send b 1 2", "send 1", "if", "if x", "if x = 1 then",
            "while", "while x", "while x = 1 do", "if x = 1 else", "",
        ):
            self.assert_no_form(text)

    def test_forms_with_other_words(self):
        for text in (
            "Process c", "PROCESS c", "process C", "process c1", "process 1", "process a-b", "process abcdefghi",
            "take 1", "take X", "take x1", "take abcdefghi", "input -", "input x,", "receive 1 b", "receive x 1",
            "receive X b", "receive x B", "receive abcdefghi b", "receive x abcdefghi", "set 1 1", "set X 1", "set x1 1",
            "set abcdefghi 1", "set x X", "set x 01", "set x x = 1", "set x [1]", "set x (", "set x 1)", "send B 1",
            "send abcdefghi 1", "send b x < 1", "send b ()", "send b 00", "if 1", "if (x = 1)", "if [x = 1", "if x == 1",
            "if not", "while 1 + 1", "while x = 1]", "while x <> 1", "else:", "end.", "checkpoints", "check", "skip",
            "elseif", "ends", "whilex = 1", "ifx = 1", "setx 1", "takex", "x", "5", "x = 1", "# set x 1", "order a 1 b 1",
            "hold a x = 1", "set x $", "set x 1 # one", "if x = 1 !",
        ):
            self.assert_no_form(text)

    def test_spaces_at_the_ends_and_between_words(self):
        for form in FORMS:
            self.assert_no_form(" " + form)
            if form.split(" ")[0] not in ("set", "send", "if", "while"):
                # In the other forms a rest may end with spaces.
                self.assert_no_form(form + " ")
            words = form.split(" ")
            for at in range(1, len(words)):
                if (words[0] in ("if", "while")) or (words[0] in ("set", "send") and at > 1):
                    continue
                self.assert_no_form(" ".join(words[:at]) + "  " + " ".join(words[at:]))
        for text in ("set  1", "set x", "set x ", "set x  ", "send b ", "send b   ", "if ", "if  ", "while ", "while    "):
            self.assert_no_form(text)
        for text in (" ", "  ", "set ", "send ", "process ", "take ", "input ", "receive ", "receive x ", "receive  b"):
            self.assert_no_form(text)

    def test_other_white_space_is_no_space(self):
        for text in (
            "process\tc", "take x\n", "take\tx", "checkpoint\n", "\n", "set x\t1", "set x 1\n", "set x 1\t", "if x = 1\n",
            "receive x\tb", "process c\n", "end\n", "else\t", "\tend", "set x 1\u00a0", "take \u00e9",
        ):
            self.assert_no_form(text)

    def test_reserved_words_in_the_place_of_names(self):
        for word in RESERVED:
            for text in (
                f"process {word}", f"take {word}", f"input {word}", f"receive {word} b", f"receive x {word}",
                f"set {word} 1", f"send {word} 1", f"set x {word}", f"send b {word} + 1", f"if {word} = 1",
                f"while x = {word}",
            ):
                self.assert_no_form(text)

    def test_limit(self):
        self.assert_bad(["process a"] + ["checkpoint"] * 400, 400, "limit")
        self.assert_bad(["process a"] + ["checkpoint"] * 401, 400, "limit")
        self.assert_bad(["process a"] + ["checkpoint"] * 2000, 400, "limit")
        self.assert_bad(tuple(["process a"] + ["checkpoint"] * 400), 400, "limit")

    def test_no_line_at_all(self):
        self.assert_bad([], 0, "name")
        self.assert_bad((), 0, "name")

    def test_lines_ahead_of_the_first_process_line(self):
        for form in FORMS[1:]:
            self.assert_bad([form], 0, "block")
            self.assert_bad([form, "process a", "process b"], 0, "block")
            self.assert_bad([form, form, "process a", "process b"], 0, "block")

    def test_else_and_end_without_a_block(self):
        self.assert_bad(["process a", "else"], 1, "block")
        self.assert_bad(["process a", "end"], 1, "block")
        self.assert_bad(["process a", "if x = 1", "end", "end"], 3, "block")
        self.assert_bad(["process a", "if x = 1", "end", "else"], 3, "block")
        self.assert_bad(["process a", "while x = 1", "end", "end"], 3, "block")
        self.assert_bad(["process a", "checkpoint", "process b", "end"], 3, "block")
        self.assert_bad(["process a", "if x = 1", "else", "end", "end", "else"], 4, "block")

    def test_else_in_a_block_that_takes_none(self):
        self.assert_bad(["process a", "while x = 1", "else", "end"], 2, "block")
        self.assert_bad(["process a", "if x = 1", "else", "else", "end"], 3, "block")
        self.assert_bad(["process a", "if x = 1", "while x = 1", "else", "end", "end"], 3, "block")
        self.assert_bad(["process a", "while x = 1", "if x = 1", "else", "end", "else", "end"], 5, "block")
        self.assert_bad(["process a", "if x = 1", "else", "if x = 1", "end", "else", "end"], 5, "block")
        self.assert_bad(["process a", "if x = 1", "else", "while x = 1", "end", "else", "end"], 5, "block")

    def test_process_line_within_a_block(self):
        self.assert_bad(["process a", "if x = 1", "process b", "end"], 2, "block")
        self.assert_bad(["process a", "while x = 1", "take x", "process b", "end"], 3, "block")
        self.assert_bad(["process a", "if x = 1", "else", "process b", "end"], 3, "block")
        self.assert_bad(["process a", "if x = 1", "if x = 1", "end", "process b"], 4, "block")

    def test_blocks_nested_21_deep(self):
        for heads in (["if x = 1"] * 21, ["while x = 1"] * 21, ["if x = 1", "while x = 1"] * 10 + ["if x = 1"]):
            self.assert_bad(["process a"] + heads + ["end"] * 21, 21, "block")
            self.assert_bad(["process a"] + heads, 21, "block")
        self.assert_bad(["process a"] + ["if x = 1", "else"] * 21 + ["end"] * 21, 41, "block")
        closed = ["if x = 1", "end"] * 5
        self.assert_bad(["process a"] + closed + ["while x = 1"] * 22, 31, "block")
        self.assert_bad(["process a"] + ["if x = 1"] * 20 + ["end", "if x = 1", "if x = 1"], 23, "block")

    def test_block_open_at_the_end(self):
        self.assert_bad(["process a", "if x = 1"], 2, "block")
        self.assert_bad(["process a", "while x = 1", "take x"], 3, "block")
        self.assert_bad(["process a", "if x = 1", "else"], 3, "block")
        self.assert_bad(["process a", "if x = 1", "while x = 1", "end"], 4, "block")
        self.assert_bad(["process a"] + ["if x = 1"] * 20, 21, "block")
        self.assert_bad(["process a"] + ["checkpoint"] * 398 + ["if x = 1"], 400, "block")

    def test_the_first_bad_line_of_the_blocks_counts(self):
        self.assert_bad(["process a", "if x = 1", "process b", "end", "else"], 2, "block")
        self.assert_bad(["process a", "end", "if x = 1", "process b"], 1, "block")
        self.assert_bad(["process a", "if x = 1", "else", "else", "process b"], 3, "block")
        self.assert_bad(["else", "process a", "end"], 0, "block")

    def test_a_name_again(self):
        self.assert_bad(["process a", "process a"], 1, "name")
        self.assert_bad(["process a", "process b", "take x", "process a", "process b"], 3, "name")

    def test_the_41st_process(self):
        letters = "abcdefghijklmnopqrstuvwxyz"
        names = ["p" + letter for letter in letters] + ["q" + letter for letter in letters]
        lines = ["process " + name for name in names]
        self.assert_bad(lines[:41], 40, "name")
        self.assert_bad(lines[:45], 40, "name")
        self.assert_bad(lines[:40] + ["process pa"], 40, "name")
        self.assert_bad(lines[:1] + ["checkpoint"] * 7 + lines[1:41], 47, "name")
        # The 41st process line names a process, too.
        self.assert_bad(lines[:1] + ["send " + names[40] + " 1"] + lines[1:41], 41, "name")
        self.assert_bad(lines[:40] + ["send pa 1", "process pa"], 41, "name")
        self.assert_bad(lines[:39] + ["process pa"] + lines[39:41], 39, "name")

    def test_send_and_receive_with_an_unknown_process(self):
        self.assert_bad(["process a", "send b 1"], 1, "name")
        self.assert_bad(["process a", "receive x b"], 1, "name")
        self.assert_bad(["process a", "take x", "process b", "send c b", "receive b a"], 3, "name")
        self.assert_bad(["process a", "if x = 1", "while x = 1", "receive a c", "end", "end", "process b"], 3, "name")
        self.assert_bad(["process a", "if x = 1", "else", "send x 1", "end"], 3, "name")

    def test_send_and_receive_with_the_own_process(self):
        self.assert_bad(["process a", "send a 1"], 1, "name")
        self.assert_bad(["process a", "receive x a", "process b"], 1, "name")
        self.assert_bad(["process a", "process b", "send a 1", "receive a b"], 3, "name")
        self.assert_bad(["process a", "process b", "send a 1", "send b 1", "process c"], 3, "name")

    def test_the_first_bad_line_of_the_names_counts(self):
        self.assert_bad(["process a", "send c 1", "process a"], 1, "name")
        self.assert_bad(["process a", "process a", "send c 1"], 1, "name")
        self.assert_bad(["process a", "process b", "receive x b", "send b 1", "process b"], 2, "name")

    def test_the_order_of_the_checks(self):
        # Each of these lines fails one check, the later ones stand further ahead.
        start = ["process a", "send a 1", "end", "skip"]
        self.assert_bad(start, 3, "line")
        self.assert_bad(start[:3], 2, "block")
        self.assert_bad(start[:2], 1, "name")
        self.assert_bad(start + ["checkpoint"] * 396, 3, "line")
        self.assert_bad(start + ["checkpoint"] * 397, 400, "limit")
        self.assert_bad(["skip"] * 401, 400, "limit")
        self.assert_bad(["skip"], 0, "line")
        self.assert_bad(["checkpoint", "skip"], 1, "line")
        self.assert_bad(["process a", "process a", "if x = 1"], 3, "block")
        self.assert_bad(["process a", "process a", "if x = 1", "If x = 2", "skip"], 3, "line")
        self.assert_bad(["process a", "send q 1", "while x = 1"], 3, "block")
        self.assert_bad(["send a 1", "process a"], 0, "block")
        self.assert_bad(["process a", "send b 1", "process b", "else"], 3, "block")

    def test_what_was_passed_stays(self):
        lines = ["process a", "send a 1"]
        self.assert_bad(lines, 1, "name")
        self.assertEqual(lines, ["process a", "send a 1"])

    def check_with_oracle(self, lines):
        error = expected_error(lines)
        if error is not None:
            self.assert_bad(lines, *error)
            return error[1]
        program = parse_program(lines)
        rows = expected_rows(lines)
        self.assertEqual([(name, program.body(name)) for name in program.names()], rows)
        self.assertEqual(program.lines(), expected_lines(rows))
        self.assertEqual(parse_program(program.lines()), program)
        return "valid"

    def test_random_lines(self):
        source = random.Random(15)
        found = []
        pool = FORMS + ("process d", "send a x", "receive y c", "set x x+1", "else", "end", "end", "end")
        for turn in range(6000):
            lines = ["process a"] + [source.choice(pool) for number in range(source.randrange(9))]
            lines += ["end"] * source.randrange(3) + ["process b"] * source.randrange(2)
            if source.randrange(20) == 0:
                lines.insert(source.randrange(len(lines)), source.choice(("skip", "set x", "take if")))
            found.append(self.check_with_oracle(lines))
        for kind in ("line", "block", "name", "valid"):
            self.assertGreater(found.count(kind), 100)

    def random_block(self, source, depth):
        """Lines that are in order as to their blocks."""
        lines = []
        for number in range(source.randrange(4)):
            choice = source.randrange(5) if depth > 0 else 4
            if choice < 2:
                lines += ["if x<1"] + self.random_block(source, depth - 1)
                if source.randrange(2):
                    lines += ["else"] + self.random_block(source, depth - 1)
                lines.append("end")
            elif choice == 2:
                lines += ["while  x=y"] + self.random_block(source, depth - 1) + ["end"]
            else:
                lines.append(source.choice(("set x  (1)", "take y", "input z", "checkpoint", "send c x", "receive x c")))
        return lines

    def test_random_valid_programs(self):
        source = random.Random(16)
        for turn in range(300):
            lines = ["process a"] + self.random_block(source, 4) + ["process b"] + self.random_block(source, 4)
            self.assertIn(self.check_with_oracle(lines + ["process c"]), ("valid", "limit"))


if __name__ == "__main__":
    unittest.main()
