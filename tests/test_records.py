"""[3], [22] to [24]: records that are valid, and their methods."""

import random
import unittest

from rerunrein.records import Record
from tests.raised import raised
from tests.record_oracle import all_events, mixed_rows, record_error, slow_messages, slow_state, some_rows

LARGEST = 10 ** 30 - 1
ROWS = (
    ("a", (
        ("set", "x", 5), ("send", "b", -3), ("send", "b", 4), ("input", "n", 7), ("checkpoint",), ("send", "c", 4),
        ("receive", "b", "y", 0), ("set", "x", -5),
    )),
    ("b", (("take", "a", "y", -3), ("send", "a", 0), ("receive", "a", "x", 4), ("set", "y", 1))),
    ("c", ()),
)
OTHER_THINGS = (
    None, True, False, 0, 1, -1, "", "a", "ab", (), [], ("a",), ["a"], ("a", 1, 1), ["a", 1, None], (1, "a"), ("a", True),
    ("a", False), ["b", True], ("a", 0), ("a", -1), ("a", 9), ["b", 5], ("c", 0), ("c", 1), ("d", 1), ("a", None), ("a", "1"),
    (None, 1), (("a",), 1), (["a"], 1), ("a", (1,)), ("a", [1]), (("a", 1),), [["a", 1]], ("A", 1), ("", 1), (0, 0),
    (True, True), "a1", ("a", 10 ** 29),
)


def frozen(thing):
    return tuple(map(frozen, thing)) if isinstance(thing, (list, tuple)) else thing


def nested(depth):
    thing = []
    for level in range(depth):
        thing = [thing]
    return thing


class RecordsTest(unittest.TestCase):

    def test_names_and_events(self):
        record = Record(ROWS)
        self.assertEqual(record.names(), ("a", "b", "c"))
        self.assertIs(type(record.names()), tuple)
        for name, events in ROWS:
            self.assertEqual(record.events(name), events)
            self.assertIs(type(record.events(name)), tuple)
            self.assertEqual(record.length(name), len(events))
        self.assertEqual(Record([("z", []), ("a", [])]).names(), ("z", "a"))

    def test_lists_for_tuples(self):
        for rows in (
            [[name, [list(event) for event in events]] for name, events in ROWS],
            tuple((name, [event for event in events]) for name, events in ROWS),
            [(name, tuple(list(event) for event in events)) for name, events in ROWS],
        ):
            record = Record(rows)
            self.assertEqual(record, Record(ROWS))
            self.assertEqual(record.events("a"), ROWS[0][1])
            for event in record.events("a"):
                self.assertIs(type(event), tuple)

    def test_what_was_passed_is_changed_afterwards(self):
        event = ["set", "x", 5]
        events = [event, ("checkpoint",)]
        row = ["a", events]
        rows = [row]
        record = Record(rows)
        self.assertEqual(rows, [["a", [["set", "x", 5], ("checkpoint",)]]])
        event[2] = 6
        events.append(("set", "y", 1))
        row[0] = "b"
        rows.append(("b", []))
        self.assertEqual(record, Record([("a", [("set", "x", 5), ("checkpoint",)])]))
        self.assertEqual(record.state("a", 1), (("x", 5),))

    def test_variables(self):
        record = Record(ROWS)
        self.assertEqual(record.variables("a"), ("n", "x", "y"))
        self.assertEqual(record.variables("b"), ("x", "y"))
        self.assertEqual(record.variables("c"), ())
        self.assertIs(type(record.variables("a")), tuple)
        record = Record([("q", [("set", "b", 1), ("set", "aa", 1), ("input", "ab", 1), ("set", "a", 1), ("set", "b", 2)])])
        self.assertEqual(record.variables("q"), ("a", "aa", "ab", "b"))
        # The name of a process in a send or ahead of a received variable is none.
        record = Record([("a", [("send", "b", 1)]), ("b", [("take", "a", "b", 1)])])
        self.assertEqual([record.variables("a"), record.variables("b")], [(), ("b",)])

    def test_state_of_every_number(self):
        record = Record(ROWS)
        self.assertEqual([record.state("a", number) for number in range(9)], [
            (("n", 0), ("x", 0), ("y", 0)), (("n", 0), ("x", 5), ("y", 0)), (("n", 0), ("x", 5), ("y", 0)),
            (("n", 0), ("x", 5), ("y", 0)), (("n", 7), ("x", 5), ("y", 0)), (("n", 7), ("x", 5), ("y", 0)),
            (("n", 7), ("x", 5), ("y", 0)), (("n", 7), ("x", 5), ("y", 0)), (("n", 7), ("x", -5), ("y", 0)),
        ])
        self.assertEqual([record.state("b", number) for number in range(5)], [
            (("x", 0), ("y", 0)), (("x", 0), ("y", -3)), (("x", 0), ("y", -3)), (("x", 4), ("y", -3)), (("x", 4), ("y", 1)),
        ])
        self.assertEqual(record.state("c", 0), ())
        self.assertIs(type(record.state("a", 0)), tuple)

    def test_state_of_no_number(self):
        record = Record(ROWS)
        for number in (
            -1, 9, 10, 10 ** 29, True, False, None, "0", "", (), (0,), [0], [[1], "a"], "a",
        ):
            with self.subTest(number):
                self.assertEqual(raised(record.state, "a", number), ("BadEvent", ("a", frozen(number))))
        self.assertEqual(raised(record.state, "c", 1), ("BadEvent", ("c", 1)))
        self.assertEqual(raised(record.state, "b", -1), ("BadEvent", ("b", -1)))

    def test_unknown_processes(self):
        record = Record(ROWS)
        for name in ("d", "", "x", "A", "set"):
            for method in (record.events, record.length, record.variables):
                self.assertEqual(raised(method, name), ("UnknownProcess", name))
            for number in (0, 1, -1, True, None, "0", [0]):
                self.assertEqual(raised(record.state, name, number), ("UnknownProcess", name))

    def test_partners(self):
        record = Record(ROWS)
        pairs = [(("a", 2), ("b", 1)), (("a", 3), ("b", 3)), (("b", 2), ("a", 7))]
        expected = {event: None for event in all_events(ROWS)}
        expected.update({one: other for one, other in pairs})
        expected.update({other: one for one, other in pairs})
        for event, partner in expected.items():
            with self.subTest(event):
                self.assertEqual(record.partner(event), partner)
                self.assertEqual(record.partner(list(event)), partner)
                self.assertIn(type(record.partner(list(event))), (tuple, type(None)))
        self.assertIsNone(record.partner(("a", 6)), "a message that is never received")

    def test_partners_of_other_things(self):
        record = Record(ROWS)
        for thing in OTHER_THINGS:
            with self.subTest(thing):
                self.assertEqual(raised(record.partner, thing), ("BadEvent", frozen(thing)))
        deep = nested(100000)
        with self.assertRaises(ValueError):
            record.partner(deep)

    def test_equality(self):
        record = Record(ROWS)
        self.assertTrue(record == Record(list(ROWS)))
        self.assertFalse(record != Record(list(ROWS)))
        others = [
            Record(ROWS[::-1]),
            Record([("a", ())]),
            Record([("a", ROWS[0][1][:6]), ("b", ROWS[1][1]), ROWS[2]]),
            Record([ROWS[0], ("b", ROWS[1][1][:3] + (("set", "y", 2),)), ROWS[2]]),
            Record([ROWS[0], ("b", (("receive", "a", "y", -3),) + ROWS[1][1][1:]), ROWS[2]]),
            Record([*ROWS, ("d", ())]),
        ]
        for other in others:
            self.assertFalse(record == other)
            self.assertTrue(record != other)
        for other in (ROWS, list(ROWS), None, 0, "a", (), object()):
            self.assertFalse(record == other)
            self.assertFalse(other == record)
            self.assertTrue(record != other)

    def test_keywords(self):
        record = Record(rows=ROWS)
        self.assertEqual(record.state(number=1, name="b"), (("x", 0), ("y", -3)))
        self.assertEqual(record.partner(event=("a", 2)), ("b", 1))
        self.assertEqual(record.events(name="c"), ())
        self.assertEqual(record.length(name="b"), 4)
        self.assertEqual(record.variables(name="b"), ("x", "y"))

    def test_forty_processes(self):
        names = ["p" + one + other for one in "abcdefgh" for other in "vwxyz"]
        record = Record([(name, [("checkpoint",)]) for name in names])
        self.assertEqual(record.names(), tuple(names))

    def test_the_greatest_integers(self):
        for value in (LARGEST, -LARGEST, 0):
            record = Record([
                ("a", [("set", "x", value), ("input", "x", value), ("send", "b", value)]), ("b", [("take", "a", "x", value)]),
            ])
            self.assertEqual(record.state("b", 1), (("x", value),))

    def test_receives_and_takes_count_together(self):
        rows = [
            ("a", [("send", "b", 1), ("send", "b", 2), ("send", "c", 3), ("send", "b", 4)]),
            ("b", [("receive", "a", "x", 1), ("take", "a", "x", 2), ("take", "c", "x", 9), ("receive", "a", "x", 4)]),
            ("c", [("take", "a", "x", 3), ("send", "b", 9)]),
        ]
        record = Record(rows)
        self.assertEqual([record.partner(("b", number)) for number in (1, 2, 3, 4)], [("a", 1), ("a", 2), ("c", 2), ("a", 4)])
        self.assertEqual([record.partner(("a", number)) for number in (1, 2, 3, 4)], [("b", 1), ("b", 2), ("c", 1), ("b", 4)])

    def test_random_records(self):
        source = random.Random(11)
        for repetition in range(300):
            rows = some_rows(source, source.randrange(1, 6), source.randrange(40))
            record = Record(rows)
            for name, events in rows:
                self.assertEqual(record.events(name), events)
                for number in range(len(events) + 1):
                    self.assertEqual(record.state(name, number), slow_state(events, number))
            partners = {one: other for one, other in slow_messages(rows)}
            partners.update({other: one for one, other in slow_messages(rows)})
            for event in all_events(rows):
                self.assertEqual(record.partner(event), partners.get(event))

    def test_random_rows(self):
        source = random.Random(12)
        reasons = set()
        for repetition in range(600):
            rows = mixed_rows(source, source.randrange(1, 5), source.randrange(24))
            expected = record_error(rows)
            reasons.add(expected and expected[0])
            if expected:
                self.assertEqual(raised(Record, rows), ("BadRecord", *expected), rows)
            else:
                self.assertEqual(Record(rows).rows, tuple(rows))
        self.assertEqual(reasons, {None, "order"})


if __name__ == "__main__":
    unittest.main()
