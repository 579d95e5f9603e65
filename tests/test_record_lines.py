"""[25]: lines of records."""

import random
import unittest

from rerunrein.records import Record, read_record, record_lines
from tests.raised import raised
from tests.record_oracle import some_rows

LARGEST = 10 ** 30 - 1
ROWS = [
    ("a", [
        ("set", "x", 5), ("send", "b", -3), ("input", "n", 0), ("checkpoint",), ("receive", "b", "y", LARGEST),
        ("take", "b", "from", -LARGEST),
    ]),
    ("b", [("take", "a", "a", -3), ("send", "a", LARGEST), ("send", "a", -LARGEST)]),
    ("from", []),
]
LINES = [
    "process a", "set x 5", "send b -3", "input n 0", "checkpoint", "receive y 999999999999999999999999999999 from b",
    "take from -999999999999999999999999999999 from b",
    "process b", "take a -3 from a", "send a 999999999999999999999999999999", "send a -999999999999999999999999999999",
    "process from",
]
FORMS = ("process c", "set x 5", "send b 5", "receive x 5 from b", "take x 5 from b", "input x 5", "checkpoint")
NO_NAMES = ("", "X", "xY", "x1", "5", "-", "abcdefghi", "process", "set", "end", "mod", "x,y", "\u00e9", "x\t", "x\n")
NO_INTEGERS = (
    "", "-", "x", "+5", "--5", "- 5", "-0", "00", "05", "-05", "007", "5.", "5.0", "5_0", "0x5", "1" * 31, "-" + "1" * 31,
    "\u0665", "5\n", "\t5", "1e3", "5-", "None", "True",
)


class RecordLinesTest(unittest.TestCase):

    def assert_no_form(self, line):
        with self.subTest(line):
            self.assertEqual(raised(read_record, [line]), ("BadRecordLine", 0))
            self.assertEqual(raised(read_record, ["process a", line]), ("BadRecordLine", 1))
            self.assertEqual(raised(read_record, ("process a", "process b", "checkpoint", line, "")), ("BadRecordLine", 3))

    def test_there(self):
        self.assertEqual(record_lines(Record(ROWS)), LINES)
        self.assertIs(type(record_lines(Record(ROWS))), list)
        self.assertEqual(record_lines(Record([("z", ()), ("a", ())])), ["process z", "process a"])

    def test_back(self):
        self.assertEqual(read_record(LINES), Record(ROWS))
        self.assertEqual(read_record(tuple(LINES)), Record(ROWS))
        self.assertIsInstance(read_record(LINES), Record)
        self.assertEqual(read_record(["process a"]), Record([("a", [])]))

    def test_there_and_back(self):
        source = random.Random(21)
        for repetition in range(200):
            record = Record(some_rows(source, source.randrange(1, 6), source.randrange(40)))
            lines = record_lines(record)
            self.assertEqual(read_record(lines), record)
            self.assertEqual(record_lines(read_record(lines)), lines)

    def test_lists_belong_to_the_caller(self):
        record = Record(ROWS)
        record_lines(record).clear()
        self.assertEqual(record_lines(record), LINES)
        lines = list(LINES)
        read = read_record(lines)
        self.assertEqual(lines, LINES)
        lines[1] = "set x 6"
        self.assertEqual(read, record)

    def test_keywords(self):
        self.assertEqual(record_lines(record=Record(ROWS)), LINES)
        self.assertEqual(read_record(lines=LINES), Record(ROWS))

    def test_a_word_too_many(self):
        for form in FORMS:
            for word in ("x", "5", "from", "b", "from b", "process"):
                self.assert_no_form(f"{form} {word}")
                self.assert_no_form(f"{word} {form}")

    def test_a_word_too_few(self):
        for form in FORMS:
            words = form.split(" ")
            for at in range(len(words)):
                if len(words) > 1:
                    self.assert_no_form(" ".join(words[:at] + words[at + 1:]))
            for length in range(1, len(words)):
                self.assert_no_form(" ".join(words[:length]))
        self.assert_no_form("")

    def test_other_words(self):
        for form in FORMS:
            words = form.split(" ")
            for word in ("Set", "sets", "SET", "if", "end", "while", "else", "", "x", "checkpoint" if len(words) > 1 else "process"):
                self.assert_no_form(" ".join([word] + words[1:]))
        for form in ("receive x 5 to b", "take x 5 From b", "receive x from 5 b", "take 5 x from b", "receive b from x 5",
                     "set 5 x", "send 5 b", "input 5 x", "receive x 5 from", "take x b", "receive x b"):
            self.assert_no_form(form)

    def test_spaces(self):
        for form in FORMS:
            self.assert_no_form(" " + form)
            self.assert_no_form(form + " ")
            self.assert_no_form("\t" + form)
            self.assert_no_form(form + "\n")
            if " " in form:
                self.assert_no_form(form.replace(" ", "  ", 1))
                self.assert_no_form(form.replace(" ", "\t", 1))
                self.assert_no_form(form.replace(" ", "", 1))
                self.assert_no_form("  ".join(form.rsplit(" ", 1)))
        self.assert_no_form(" ")

    def test_words_that_are_no_names(self):
        for name in NO_NAMES:
            for form in ("process {}", "set {} 5", "send {} 5", "receive {} 5 from b", "receive x 5 from {}",
                         "take {} 5 from b", "take x 5 from {}", "input {} 5"):
                self.assert_no_form(form.replace("{}", name))

    def test_words_that_are_no_integers(self):
        for integer in NO_INTEGERS:
            for form in ("set x {}", "send b {}", "receive x {} from b", "take x {} from b", "input x {}"):
                self.assert_no_form(form.replace("{}", integer))

    def test_integers(self):
        for integer in (0, 1, -1, 10, -10, 100, LARGEST, -LARGEST, 10 ** 29, -10 ** 29):
            lines = ["process a", f"set x {integer}", f"input y {integer}", f"send b {integer}", "process b",
                     f"take x {integer} from a"]
            record = read_record(lines)
            self.assertEqual(record.state("a", 2), (("x", integer), ("y", integer)))
            self.assertEqual(record_lines(record), lines)

    def test_no_line(self):
        self.assertEqual(raised(read_record, []), ("BadRecordLine", 0))
        self.assertEqual(raised(read_record, ()), ("BadRecordLine", 0))

    def test_the_first_line_is_no_process_line(self):
        for form in FORMS[1:]:
            with self.subTest(form):
                self.assertEqual(raised(read_record, [form]), ("BadRecordLine", 0))
                self.assertEqual(raised(read_record, [form, "process a"]), ("BadRecordLine", 0))

    def test_a_line_of_no_form_comes_first(self):
        self.assertEqual(raised(read_record, ["checkpoint", "process a", "set x"]), ("BadRecordLine", 2))
        self.assertEqual(raised(read_record, ["checkpoint", "process", "set x"]), ("BadRecordLine", 1))
        self.assertEqual(raised(read_record, ["process a", "process a", "set x"]), ("BadRecordLine", 2))
        self.assertEqual(raised(read_record, ["process a", "send b 5", "x"]), ("BadRecordLine", 2))
        self.assertEqual(raised(read_record, ["checkpoint", "process a", "process a"]), ("BadRecordLine", 0))

    def test_then_as_record(self):
        for lines, *fields in (
            (["process a", "process b", "process a"], "row", None, 2),
            (["process a", "checkpoint", "send b 5"], "event", "a", 2),
            (["process a", "send a 5"], "event", "a", 1),
            (["process a", "process b", "take x 5 from c"], "event", "b", 1),
            (["process a", "send b 4", "process b", "take x 5 from a"], "message", "b", 1),
            (["process a", "take x 1 from b", "send b 1", "process b", "take x 1 from a", "send a 1"], "order", "a", 1),
        ):
            with self.subTest(lines):
                self.assertEqual(raised(read_record, lines), ("BadRecord", *fields))
        names = ["p" + one + other for one in "abcdefghi" for other in "vwxyz"]
        self.assertEqual(read_record([f"process {name}" for name in names[:40]]).names(), tuple(names[:40]))
        self.assertEqual(raised(read_record, [f"process {name}" for name in names]), ("BadRecord", "row", None, 40))


if __name__ == "__main__":
    unittest.main()
