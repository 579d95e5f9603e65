"""[26]: first_departure."""

import unittest

from rerunrein.machine import run
from rerunrein.programs import parse_program
from rerunrein.records import Record, first_departure
from tests.raised import raised

LINES = [
    "process a", "input x", "send b x + 1", "receive y b", "take z", "set z z * 2", "checkpoint",
    "process b", "receive x a", "send a x", "send a 3", "send a 4",
    "process c", "set v 1", "send a 9",
]
INPUTS = [("a", [5])]
ROWS = [
    ("a", [("input", "x", 5), ("send", "b", 6), ("receive", "b", "y", 6), ("take", "c", "z", 9), ("set", "z", 18), ("checkpoint",)]),
    ("b", [("receive", "a", "x", 6), ("send", "a", 6), ("send", "a", 3), ("send", "a", 4)]),
    ("c", [("set", "v", 1), ("send", "a", 9)]),
]


def with_event(name, number, event):
    """The rows with another event there."""
    return [
        (one, [*events[:number - 1], event, *events[number:]] if one == name else events) for one, events in ROWS
    ]


class DeparturesTest(unittest.TestCase):

    def setUp(self):
        self.program = parse_program(LINES)

    def departure(self, rows, lines=LINES, inputs=INPUTS):
        return first_departure(parse_program(lines), inputs, Record(rows))

    def test_the_whole_record(self):
        self.assertIsNone(self.departure(ROWS))
        self.assertIsNone(first_departure(record=Record(ROWS), inputs=[["a", (5,)]], program=self.program))
        for choices in ([0] * 40, [1] * 40, [2] * 40, list(range(40)), [5, 3, 1]):
            record = run(self.program, INPUTS, choices).record()
            self.assertIsNone(first_departure(self.program, INPUTS, record))

    def test_a_part_of_the_record(self):
        self.assertIsNone(self.departure([("a", []), ("b", []), ("c", [])]))
        self.assertIsNone(self.departure([("a", ROWS[0][1][:2]), ("b", ROWS[1][1][:3]), ("c", ROWS[2][1][:1])]))
        self.assertIsNone(self.departure([("a", ROWS[0][1][:4]), ROWS[1], ROWS[2]]))

    def test_each_process_on_its_own(self):
        # A process may have done its events without the messages of a process that departs.
        rows = [ROWS[1], ("a", [("input", "x", 6), *ROWS[0][1][1:]]), ROWS[2]]
        self.assertEqual(self.departure(rows), ("a", 1))
        # b departs at its end only, and a has the message that b does not send.
        lines = [line.replace("send a 3", "send a 30") for line in LINES]
        rows = [(name, [("take", "b", "z", 3) if event[0] == "take" else event for event in events]) for name, events in ROWS]
        rows[0][1][4] = ("set", "z", 6)
        self.assertEqual(self.departure(rows, lines), ("b", 3))
        self.assertEqual(self.departure([rows[1], rows[2], rows[0]], lines), ("b", 3))

    def test_another_value(self):
        self.assertEqual(self.departure(with_event("a", 1, ("input", "x", 4))), ("a", 1))
        self.assertEqual(self.departure(with_event("a", 5, ("set", "z", 19))), ("a", 5))
        self.assertEqual(self.departure(with_event("b", 4, ("send", "a", 5))), ("b", 4))
        self.assertEqual(self.departure(ROWS, inputs=[("a", [6])]), ("a", 1))
        self.assertEqual(self.departure(ROWS, inputs=[("a", [5, 6])]), None)
        # The value of a message is what the record says, even if the sender departs.
        rows = [
            ("a", [("input", "x", 5), ("send", "b", 7)]), ("b", [("receive", "a", "x", 7), ("send", "a", 7)]), ("c", []),
        ]
        self.assertEqual(self.departure(rows), ("a", 2))
        self.assertEqual(self.departure([rows[1], rows[0], rows[2]]), ("a", 2))
        rows[1] = ("b", [("receive", "a", "x", 7), ("send", "a", 6)])
        self.assertEqual(self.departure([rows[1], rows[0], rows[2]]), ("b", 2))

    def test_another_variable(self):
        self.assertEqual(self.departure(with_event("a", 1, ("input", "y", 5))), ("a", 1))
        self.assertEqual(self.departure(with_event("a", 3, ("receive", "b", "x", 6))), ("a", 3))
        self.assertEqual(self.departure(with_event("a", 4, ("take", "c", "y", 9))), ("a", 4))
        self.assertEqual(self.departure(with_event("c", 1, ("set", "w", 1))), ("c", 1))

    def test_another_form(self):
        self.assertEqual(self.departure(with_event("a", 1, ("set", "x", 5))), ("a", 1))
        self.assertEqual(self.departure(with_event("c", 1, ("input", "v", 1))), ("c", 1))
        self.assertEqual(self.departure(with_event("a", 3, ("take", "b", "y", 6))), ("a", 3))
        self.assertEqual(self.departure(with_event("a", 4, ("receive", "c", "z", 9))), ("a", 4))
        self.assertEqual(self.departure(with_event("a", 4, ("set", "z", 9))), ("a", 4))
        self.assertEqual(self.departure(with_event("a", 3, ("checkpoint",))), ("a", 3))
        self.assertEqual(self.departure(with_event("a", 6, ("set", "z", 18))), ("a", 6))
        self.assertEqual(self.departure(with_event("c", 1, ("checkpoint",))), ("c", 1))

    def test_another_process(self):
        self.assertEqual(self.departure(with_event("b", 3, ("send", "c", 3))), ("b", 3))
        rows = with_event("a", 3, ("receive", "c", "y", 9))
        rows[0] = ("a", rows[0][1][:3])
        self.assertEqual(self.departure(rows), ("a", 3))
        # A take takes from the recorded sender, whoever that is.
        rows = with_event("a", 4, ("take", "b", "z", 3))
        rows = [("a", [*rows[0][1][:4], ("set", "z", 6), ("checkpoint",)]), *rows[1:]]
        self.assertIsNone(self.departure(rows))

    def test_an_event_too_many(self):
        for event in (("checkpoint",), ("set", "x", 1), ("input", "x", 5), ("send", "b", 1)):
            rows = [("a", [*ROWS[0][1], event]), *ROWS[1:]]
            self.assertEqual(self.departure(rows), ("a", 7))
        rows = [*ROWS[:2], ("c", [*ROWS[2][1], ("checkpoint",)])]
        self.assertEqual(self.departure(rows), ("c", 3))
        rows = [("a", [*ROWS[0][1], ("take", "b", "z", 3)]), *ROWS[1:]]
        self.assertEqual(self.departure(rows), ("a", 7))

    def test_a_process_that_has_stopped(self):
        self.assertEqual(self.departure(ROWS, inputs=[]), ("a", 1))
        for line in ("set z 1 // 0", "set z z * " + "9" * 30, "input z", "while 0 = 0\nend"):
            lines = "\n".join(LINES).replace("set z z * 2", line).split("\n")
            self.assertEqual(self.departure(ROWS, lines), ("a", 5))

    def test_the_value_ahead_of_a_fault(self):
        # The process has no value there: the one from before the fault must not stand in for it.
        for fault in ("1 // 0", "9 * " + "9" * 30):
            for form, event in (("set x", ("set", "x", 5)), ("send b", ("send", "b", 5))):
                lines = ["process a", form + " 5", form + " " + fault, "process b"]
                self.assertIsNone(self.departure([("a", [event]), ("b", [])], lines, ()))
                self.assertEqual(self.departure([("a", [event, event]), ("b", [])], lines, ()), ("a", 2))
        lines = ["process a", "input x", "input x"]
        events = [("input", "x", 5), ("input", "x", 5)]
        self.assertEqual(self.departure([("a", events)], lines, [("a", [5])]), ("a", 2))
        self.assertIsNone(self.departure([("a", events)], lines, [("a", [5, 5])]))

    def test_the_order_of_the_record(self):
        rows = with_event("a", 6, ("set", "z", 1))
        rows[1] = ("b", [*ROWS[1][1], ("checkpoint",)])
        self.assertEqual(self.departure(rows), ("a", 6))
        self.assertEqual(self.departure([rows[1], rows[0], rows[2]]), ("b", 5))
        self.assertEqual(self.departure(rows[::-1]), ("b", 5))

    def test_blocks_are_gone_through(self):
        lines = ["process a", "while x < 3", "set x x + 1", "end", "if x = 3", "else", "checkpoint", "end", "set y x"]
        events = [("set", "x", 1), ("set", "x", 2), ("set", "x", 3), ("set", "y", 3)]
        self.assertIsNone(self.departure([("a", events)], lines, ()))
        self.assertEqual(self.departure([("a", [*events[:3], ("checkpoint",)])], lines, ()), ("a", 4))
        self.assertEqual(self.departure([("a", [*events, ("set", "x", 4)])], lines, ()), ("a", 5))

    def test_a_process_that_is_not_in_the_record(self):
        lines = [*LINES, "process d", "set x 1 // 0"]
        self.assertIsNone(self.departure(ROWS, lines))
        self.assertIsNone(self.departure([("c", [("set", "v", 1)])]))
        self.assertEqual(self.departure([("c", [("set", "v", 2)])]), ("c", 1))

    def test_a_process_that_is_not_in_the_program(self):
        rows = [("c", [("set", "v", 2)]), ("e", []), ("d", [])]
        record = Record(rows)
        self.assertEqual(raised(first_departure, self.program, INPUTS, record), ("UnknownProcess", "e"))
        record = Record(rows[::-1])
        self.assertEqual(raised(first_departure, self.program, INPUTS, record), ("UnknownProcess", "d"))

    def test_inputs_come_first(self):
        for inputs, index in (([("e", [])], 0), ([("a", []), ("a", [])], 1), ([("a", []), ("d", [])], 1)):
            for rows in (ROWS, [("e", [])]):
                self.assertEqual(raised(first_departure, self.program, inputs, Record(rows)), ("BadInputs", index))

    def test_nothing_is_changed(self):
        inputs = [["a", [5]]]
        record = Record(ROWS)
        first_departure(self.program, inputs, record)
        self.assertIsNone(first_departure(self.program, inputs, record))
        self.assertEqual(inputs, [["a", [5]]])
        self.assertEqual(record, Record(ROWS))


if __name__ == "__main__":
    unittest.main()
