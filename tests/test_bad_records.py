"""[4], [5], [22], [23]: rows that are no record."""

import random
import unittest

from rerunrein.records import Record
from tests.raised import raised
from tests.record_oracle import mixed_rows, record_error, some_rows

LARGEST = 10 ** 30 - 1
NO_NAMES = (
    "", " ", "A", "a1", "a b", "abcdefghi", "process", "take", "end", "a\n", None, 0, 5, True, (), [], ("a",), ["a"], (["a"],),
)
NO_INTEGERS = (None, True, False, "5", "", (), [], (5,), [5], 10 ** 30, -10 ** 30, 10 ** 40)
EVENTS = (
    ("set", "x", 5), ("send", "b", 5), ("receive", "b", "x", 5), ("take", "b", "x", 5), ("input", "x", 5), ("checkpoint",),
)


def nested(depth):
    thing = ()
    for level in range(depth):
        thing = (thing,)
    return thing


class BadRecordsTest(unittest.TestCase):

    def assert_bad(self, rows, *fields):
        with self.subTest(str(rows)[:200]):
            self.assertEqual(raised(Record, rows), ("BadRecord", *fields))
            self.assertEqual(raised(Record, tuple(rows)), ("BadRecord", *fields))

    def assert_bad_event(self, event):
        """The event is bad, also behind a good one, and in a later process, and as a list."""
        b_sends = ("b", [("send", "a", 5)])
        self.assert_bad([("a", [event]), b_sends], "event", "a", 1)
        self.assert_bad([("a", [("checkpoint",), event, event]), b_sends], "event", "a", 2)
        self.assert_bad([b_sends, ["a", (("checkpoint",), ["checkpoint"], event)]], "event", "a", 3)
        if isinstance(event, tuple):
            self.assert_bad([("a", [list(event)]), b_sends], "event", "a", 1)

    def test_no_row(self):
        self.assert_bad([], "row", None, 0)

    def test_rows_that_are_no_pairs(self):
        for row in (
            None, True, 0, 5, "a", "ab", "", (), [], ("a",), ["a"], ("a", [], []), ("a", (), None), [["a", []]], (("a", ()),),
        ):
            self.assert_bad([row], "row", None, 0)
            self.assert_bad([("b", []), row], "row", None, 1)
            self.assert_bad([["b", []], row, row, ("b", [])], "row", None, 1)

    def test_rows_whose_names_are_no_names(self):
        for name in NO_NAMES:
            self.assert_bad([(name, [])], "row", None, 0)
            self.assert_bad([("c", []), [name, ()]], "row", None, 1)

    def test_rows_whose_events_are_no_sequence(self):
        for events in (None, True, False, 0, 1, "", "checkpoint", "ab"):
            self.assert_bad([("a", events)], "row", None, 0)
            self.assert_bad([("b", ()), ("c", []), ("a", events)], "row", None, 2)

    def test_names_that_occur_earlier(self):
        self.assert_bad([("a", []), ("a", [])], "row", None, 1)
        self.assert_bad([("a", []), ("b", []), ("c", []), ["b", []], ("a", [])], "row", None, 3)

    def test_forty_one_rows(self):
        names = ["p" + one + other for one in "abcdefghi" for other in "vwxyz"]
        rows = [(name, []) for name in names]
        self.assertEqual(len(Record(rows[:40]).names()), 40)
        self.assert_bad(rows[:41], "row", None, 40)
        self.assert_bad(rows, "row", None, 40)
        self.assert_bad(rows[:40] + [None], "row", None, 40)
        self.assert_bad(rows[:39] + [None] + rows[40:], "row", None, 39)
        self.assert_bad(rows[:40] + [rows[0]], "row", None, 40)

    def test_rows_come_first(self):
        bad_event = ("a", [None])
        self.assert_bad([bad_event, ("b", 5)], "row", None, 1)
        self.assert_bad([("a", [("take", "b", "x", 1)]), ("b", []), ("b", [])], "row", None, 2)
        self.assert_bad([("a", [("receive", "b", "x", 1), ("send", "b", 1)]),
                         ("b", [("receive", "a", "x", 1), ("send", "a", 1)]), None], "row", None, 2)

    def test_events_that_are_no_sequences(self):
        for event in (None, True, False, 0, 1, "", "checkpoint", "set", (), [], [[]], ((),)):
            self.assert_bad_event(event)
        self.assertEqual(raised(Record, [("a", [nested(50000)])]), ("BadRecord", "event", "a", 1))

    def test_events_with_other_words(self):
        for word in ("", "Set", "sets", "set ", "process", "if", "take x", "checkpoints", None, 0, True, ("set",), ["set"], ()):
            self.assert_bad_event((word,))
            self.assert_bad_event((word, "x", 5))
            self.assert_bad_event((word, "b", 5))
            self.assert_bad_event((word, "b", "x", 5))

    def test_events_of_other_lengths(self):
        for event in EVENTS:
            self.assert_bad_event(event + (5,))
            self.assert_bad_event(event + ("x",))
            self.assert_bad_event(event + (None,))
            self.assert_bad_event(event + ((),))
            for length in range(1, len(event)):
                self.assert_bad_event(event[:length])

    def test_events_in_another_order(self):
        for event in (
            ("set", 5, "x"), ("send", 5, "b"), ("receive", "x", "b", 5), ("take", "x", "b", 5), ("receive", "b", 5, "x"),
            ("input", 5, "x"), (5, "x", "set"), (("set", "x", 5),), ("set", ("x", 5)),
        ):
            self.assert_bad_event(event)

    def test_variables_that_are_no_names(self):
        for name in NO_NAMES:
            self.assert_bad_event(("set", name, 5))
            self.assert_bad_event(("input", name, 5))
            self.assert_bad_event(("receive", "b", name, 5))
            self.assert_bad_event(("take", "b", name, 5))

    def test_values_that_are_no_integers(self):
        for value in NO_INTEGERS:
            for event in EVENTS[:5]:
                self.assert_bad_event(event[:-1] + (value,))

    def test_thirty_digits(self):
        for value in (LARGEST, -LARGEST):
            self.assertEqual(Record([("a", [("set", "x", value)])]).events("a"), (("set", "x", value),))
            self.assert_bad([("a", [("set", "x", value + (1 if value > 0 else -1))])], "event", "a", 1)

    def test_processes_that_are_not_there(self):
        for name in ("c", "a", "x", *NO_NAMES):
            self.assert_bad_event(("send", name, 5))
            self.assert_bad_event(("receive", name, "x", 5))
            self.assert_bad_event(("take", name, "x", 5))

    def test_the_first_bad_event(self):
        self.assert_bad([("a", [("checkpoint",)] * 3), ("b", [("checkpoint",), None]), ("c", [None])], "event", "b", 2)
        self.assert_bad([("z", [("checkpoint",), ("send", "q", 1)]), ("a", [None])], "event", "z", 2)

    def test_events_come_ahead_of_messages(self):
        self.assert_bad([("a", [("take", "b", "x", 1)]), ("b", [("checkpoint",), ("set", "x", True)])], "event", "b", 2)
        self.assert_bad([("a", [("take", "b", "x", 1), None]), ("b", [])], "event", "a", 2)

    def test_messages_that_are_never_sent(self):
        for word in ("receive", "take"):
            self.assert_bad([("a", [(word, "b", "x", 1)]), ("b", [])], "message", "a", 1)
            self.assert_bad([("a", [(word, "b", "x", 1)] * 2), ("b", [("send", "a", 1)])], "message", "a", 2)
            # A message to or from another process is none.
            self.assert_bad(
                [("a", [(word, "b", "x", 1)]), ("b", [("send", "c", 1)]), ("c", [("send", "a", 1)])], "message", "a", 1,
            )
            self.assert_bad([("a", [("checkpoint",), (word, "b", "x", 1), ("send", "b", 1)]), ("b", [])], "message", "a", 2)

    def test_messages_with_another_value(self):
        for word in ("receive", "take"):
            sends = ("b", [("send", "a", 1), ("send", "a", 2)])
            self.assert_bad([("a", [(word, "b", "x", 2)]), sends], "message", "a", 1)
            self.assert_bad([("a", [(word, "b", "x", 2), (word, "b", "x", 1)]), sends], "message", "a", 1)
            self.assert_bad([("a", [(word, "b", "x", 1), (word, "b", "x", -2)]), sends], "message", "a", 2)
            self.assert_bad([("a", [("receive", "b", "x", 1), ("take", "b", "x", 1)]), sends], "message", "a", 2)
            self.assert_bad([("a", [("take", "b", "x", 1), ("receive", "b", "x", 1)]), sends], "message", "a", 2)

    def test_the_first_bad_message(self):
        self.assert_bad([
            ("a", [("send", "b", 1), ("take", "c", "x", 7)]), ("b", [("take", "a", "x", 2)]), ("c", []),
        ], "message", "a", 2)
        self.assert_bad([
            ("b", [("take", "a", "x", 2)]), ("a", [("send", "b", 1), ("take", "c", "x", 7)]), ("c", []),
        ], "message", "b", 1)

    def test_messages_come_ahead_of_the_order(self):
        self.assert_bad([
            ("a", [("receive", "b", "x", 1), ("send", "b", 1)]), ("b", [("receive", "a", "x", 1), ("send", "a", 1)]),
            ("c", [("checkpoint",), ("take", "a", "x", 1)]),
        ], "message", "c", 2)

    def test_two_processes_that_wait_for_each_other(self):
        ring = [("a", [("receive", "b", "x", 1), ("send", "b", 2)]), ("b", [("receive", "a", "x", 2), ("send", "a", 1)])]
        self.assert_bad(ring, "order", "a", 1)
        self.assert_bad(ring[::-1], "order", "b", 1)
        self.assert_bad([("c", [("checkpoint",)]), *ring], "order", "a", 1)
        self.assert_bad([
            ("a", [("checkpoint",), ("set", "x", 1), ("take", "b", "x", 1), ("send", "b", 2)]),
            ("b", [("checkpoint",), ("take", "a", "x", 2), ("send", "a", 1)]),
        ], "order", "a", 3)

    def test_a_process_that_waits_for_a_ring(self):
        ring = [("a", [("receive", "b", "x", 1), ("send", "b", 2), ("send", "c", 3)]),
                ("b", [("receive", "a", "x", 2), ("send", "a", 1)])]
        waiting = ("c", [("checkpoint",), ("receive", "a", "x", 3), ("checkpoint",)])
        self.assert_bad([waiting, *ring], "order", "c", 2)
        self.assert_bad([*ring, waiting], "order", "a", 1)

    def test_a_ring_over_three_processes(self):
        rows = [
            ("a", [("send", "b", 0), ("receive", "c", "x", 1), ("send", "b", 2)]),
            ("b", [("receive", "a", "x", 0), ("receive", "a", "x", 2), ("send", "c", 3)]),
            ("c", [("checkpoint",), ("receive", "b", "x", 3), ("send", "a", 1)]),
        ]
        self.assert_bad(rows, "order", "a", 2)
        self.assert_bad([rows[1], rows[2], rows[0]], "order", "b", 2)
        self.assert_bad([rows[2], rows[0], rows[1]], "order", "c", 2)

    def test_a_ring_over_forty_processes(self):
        names = ["p" + one + other for one in "abcdefgh" for other in "vwxyz"]
        rows = [
            (name, [("checkpoint",), ("receive", names[at - 1], "x", 1), ("send", names[(at + 1) % 40], 1)])
            for at, name in enumerate(names)
        ]
        self.assert_bad(rows, "order", names[0], 2)
        rows[7] = (names[7], [("checkpoint",), ("send", names[8], 1), ("receive", names[6], "x", 1)])
        self.assertEqual(Record(rows).length(names[7]), 3)

    def test_a_message_that_is_never_received(self):
        record = Record([("a", [("send", "b", 1), ("send", "b", 2)]), ("b", [("take", "a", "x", 1)])])
        self.assertEqual([record.partner(("a", 1)), record.partner(("a", 2))], [("b", 1), None])

    def test_nothing_is_changed(self):
        rows = [["a", [["set", "x", [5]]]], ["b", []]]
        self.assert_bad(rows, "event", "a", 1)
        self.assertEqual(rows, [["a", [["set", "x", [5]]]], ["b", []]])

    def test_random_rows(self):
        source = random.Random(13)
        things = [None, True, 0, "x", "a", (), ("set",), ("set", "x", 1), ("send", "b", 1), ("take", "a", "x", 1)]
        reasons = set()
        for repetition in range(1500):
            make = source.choice((some_rows, mixed_rows))
            rows = [[name, [list(event) for event in events]] for name, events in make(source, source.randrange(1, 5), 20)]
            for change in range(source.randrange(3)):
                row = source.choice(rows)
                choice = source.randrange(12)
                if choice == 0 and isinstance(row, list):
                    row[source.randrange(2)] = source.choice(things)
                elif choice == 1:
                    rows[source.randrange(len(rows))] = source.choice([*things, ["a", []]])
                elif isinstance(row, list) and isinstance(row[1], list) and row[1]:
                    event = source.choice(row[1])
                    if choice == 2:
                        row[1].remove(event)
                    elif choice == 3:
                        row[1][source.randrange(len(row[1]))] = source.choice(things)
                    elif isinstance(event, list) and event:
                        event[source.randrange(len(event))] = source.choice([*things, 1, 2, -1, "b", "send", "take"])
            expected = record_error(rows)
            reasons.add(expected and expected[0])
            if expected:
                self.assertEqual(raised(Record, rows), ("BadRecord", *expected), rows)
            else:
                Record(rows)
        self.assertEqual(reasons, {None, "row", "event", "message", "order"})


if __name__ == "__main__":
    unittest.main()
