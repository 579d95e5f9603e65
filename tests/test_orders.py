"""[3], [4], [27], [28]: orders, waits, cuts."""

import itertools
import random
import unittest

from rerunrein.orders import Order
from rerunrein.records import Record, read_record
from tests.raised import raised
from tests.record_oracle import all_events, closure, is_ring, slow_cuts, some_rows, some_waits
from tests.test_records import OTHER_THINGS, frozen, nested

EXAMPLE = Record([("a", [("send", "b", 5), ("set", "x", 1)]), ("b", [("receive", "a", "x", 5)])])
FREE = Record([(name, [("checkpoint",)] * 3) for name in "abc"])
# a sends to b, b to c, and c does something ahead of and behind its take.
CHAIN = read_record([
    "process a", "checkpoint", "send b 1", "checkpoint",
    "process b", "checkpoint", "take x 1 from a", "send c 2",
    "process c", "checkpoint", "receive x 2 from b", "checkpoint",
])


def rows_of(record):
    return [(name, record.events(name)) for name in record.names()]


class OrderTest(unittest.TestCase):

    def test_ahead_in_a_process(self):
        order = Order(FREE)
        for one, other in itertools.product(range(1, 4), repeat=2):
            self.assertIs(order.ahead(("a", one), ("a", other)), one < other)
        self.assertIs(order.ahead(("a", 1), ("b", 3)), False)
        self.assertIs(order.ahead(("b", 3), ("a", 1)), False)

    def test_ahead_through_messages(self):
        order = Order(EXAMPLE)
        self.assertIs(order.ahead(("a", 1), ("b", 1)), True)
        self.assertIs(order.ahead(("b", 1), ("a", 1)), False)
        self.assertIs(order.ahead(("a", 2), ("b", 1)), False)
        self.assertIs(order.ahead(("b", 1), ("a", 2)), False)
        order = Order(CHAIN)
        self.assertIs(order.ahead(("a", 1), ("c", 2)), True)
        self.assertIs(order.ahead(("a", 2), ("c", 3)), True)
        self.assertIs(order.ahead(("a", 3), ("c", 3)), False)
        self.assertIs(order.ahead(("a", 2), ("c", 1)), False)
        self.assertIs(order.ahead(("b", 1), ("c", 2)), True)
        self.assertIs(order.ahead(("c", 1), ("a", 1)), False)

    def test_ahead_of_itself(self):
        for order in (Order(FREE), Order(EXAMPLE), Order(CHAIN, [(("c", 1), ("a", 1))])):
            for event in all_events(rows_of(order.recorded)):
                self.assertIs(order.ahead(event, event), False)
                self.assertIs(order.ahead(list(event), event), False)

    def test_ahead_through_waits(self):
        order = Order(FREE, [(("a", 2), ("b", 1)), (("b", 2), ("c", 2))])
        self.assertIs(order.ahead(("a", 2), ("b", 1)), True)
        self.assertIs(order.ahead(("a", 1), ("c", 3)), True)
        self.assertIs(order.ahead(("a", 3), ("c", 3)), False)
        self.assertIs(order.ahead(("a", 1), ("c", 1)), False)
        self.assertIs(order.ahead(("b", 1), ("a", 2)), False)

    def test_ahead_against_the_closure(self):
        source = random.Random(31)
        for repetition in range(150):
            rows = some_rows(source, source.randrange(1, 5), source.randrange(24))
            record = Record(rows)
            waits = some_waits(source, rows, source.randrange(4))
            ahead = closure(rows, waits)
            if any(event in ahead[event] for event in ahead):
                continue
            order = Order(record, waits)
            for one, other in itertools.product(ahead, repeat=2):
                self.assertIs(order.ahead(one, other), one in ahead[other])

    def test_ahead_of_things_that_are_no_events(self):
        order = Order(Record([("a", [("checkpoint",)] * 8), ("b", [("checkpoint",)] * 4), ("c", [])]))
        for thing in OTHER_THINGS:
            with self.subTest(thing):
                expected = ("BadEvent", frozen(thing))
                self.assertEqual(raised(order.ahead, thing, ("a", 1)), expected)
                self.assertEqual(raised(order.ahead, ("a", 1), thing), expected)
                self.assertEqual(raised(order.ahead, thing, ("d", 5)), expected)
                self.assertEqual(raised(order.least_cut, [thing]), expected)
                self.assertEqual(raised(order.least_cut, (("a", 1), thing, ("d", 1))), expected)
        self.assertEqual(raised(order.ahead, ("a", 1), ("d", 5)), ("BadEvent", ("d", 5)))
        self.assertIs(order.ahead(["a", 1], ["a", 8]), True)

    def test_keywords(self):
        order = Order(waits=[(("b", 1), ("a", 2))], record=EXAMPLE)
        self.assertIs(order.ahead(other=("a", 2), one=("b", 1)), True)
        self.assertIs(order.is_cut(cut=(2, 0)), False)
        self.assertEqual(order.least_cut(events=[("a", 2)]), (2, 1))


class WaitsTest(unittest.TestCase):

    def test_as_passed(self):
        wait, other = (("a", 2), ("b", 1)), (("c", 1), ("b", 2))
        self.assertEqual(Order(FREE).waits(), ())
        self.assertEqual(Order(FREE, ()).waits(), ())
        self.assertEqual(Order(FREE, []).waits(), ())
        self.assertEqual(Order(FREE, [wait, other, wait]).waits(), (wait, other, wait))
        self.assertEqual(Order(FREE, (other, wait)).waits(), (other, wait))
        lists = Order(FREE, [[["a", 2], ("b", 1)], (["c", 1], ["b", 2])]).waits()
        self.assertEqual(lists, (wait, other))
        self.assertEqual([type(lists), type(lists[0]), type(lists[0][0]), type(lists[1][1])], [tuple] * 4)

    def test_a_wait_twice(self):
        wait = (("b", 1), ("a", 2))
        one, twice = Order(EXAMPLE, [wait]), Order(EXAMPLE, [wait, list(wait), wait])
        self.assertEqual(slow_cuts(rows_of(EXAMPLE), [wait]), [cut for cut in slow_cuts(rows_of(EXAMPLE)) if one.is_cut(cut)])
        for cut in itertools.product(range(3), range(2)):
            self.assertEqual(one.is_cut(cut), twice.is_cut(cut))

    def test_waits_changed_afterwards(self):
        event = ["a", 2]
        wait = [event, ("b", 1)]
        waits = [wait]
        order = Order(FREE, waits)
        self.assertEqual(waits, [[["a", 2], ("b", 1)]])
        event[1] = 3
        wait[1] = ("c", 1)
        waits.append(5)
        self.assertEqual(order.waits(), ((("a", 2), ("b", 1)),))
        self.assertIs(order.ahead(("a", 2), ("b", 1)), True)
        self.assertIs(order.ahead(("a", 3), ("b", 1)), False)

    def test_a_wait_that_the_record_has_anyway(self):
        order = Order(EXAMPLE, [(("a", 1), ("b", 1))])
        self.assertEqual([cut for cut in itertools.product(range(3), range(2)) if order.is_cut(cut)], slow_cuts(rows_of(EXAMPLE)))

    def test_things_that_are_no_waits(self):
        good = (("a", 1), ("b", 1))
        events = [thing for thing in OTHER_THINGS if thing not in (("a", 9), ["b", 5], ("c", 1))]
        things = [
            None, True, 0, 5, "", "ab", (), [], ("a", 1), (("a", 1),), [["a", 1]], (("a", 1), ("b", 1), ("c", 1)),
            (("a", 1), ("a", 2)), (("a", 2), ("a", 1)), (("a", 1), ("a", 1)), [["b", 1], ["b", 2]], ((("a", 1), ("b", 1)),),
            (("a", 1), ("b", 4)), (("a", 4), ("b", 1)), (("a", 0), ("b", 1)), (("a", 1), ("d", 1)), (("a", 1), ("b", True)),
            (("a", True), ("b", 1)), nested(50000), "ab",
        ]
        things += [(thing, ("b", 1)) for thing in events if thing != ("a", 1)] + [[("b", 1), thing] for thing in events]
        for thing in things:
            self.assertEqual(raised(Order, FREE, [thing]), ("BadWait", 0))
            self.assertEqual(raised(Order, FREE, (good, list(good), thing, thing)), ("BadWait", 2))

    def test_bad_waits_come_ahead_of_rings(self):
        ring = [(("a", 1), ("b", 1)), (("b", 1), ("a", 1))]
        self.assertEqual(raised(Order, FREE, ring + [None]), ("BadWait", 2))

    def assert_ring(self, record, waits, expected=None):
        error, ring = raised(Order, record, waits)
        self.assertEqual(error, "NotLive")
        self.assertTrue(is_ring(rows_of(record), frozen(waits), ring), (waits, ring))
        if expected is not None:
            turned = [ring[at:] + ring[:at] for at in range(len(ring))]
            self.assertIn(expected, turned)
        self.assertEqual(raised(Order, record, waits), ("NotLive", ring))

    def test_rings_of_one_wait(self):
        wait = (("b", 1), ("a", 1))
        self.assert_ring(EXAMPLE, [wait], (wait,))
        self.assert_ring(EXAMPLE, [[["b", 1], ["a", 1]]], (wait,))
        self.assert_ring(EXAMPLE, [wait, wait], None)
        wait = (("c", 3), ("a", 1))
        self.assert_ring(CHAIN, [wait], (wait,))
        wait = (("c", 2), ("a", 2))
        self.assert_ring(CHAIN, [wait], (wait,))
        for wait in ((("c", 2), ("a", 3)), (("c", 1), ("a", 1)), (("b", 1), ("a", 1))):
            self.assertEqual(Order(CHAIN, [wait]).waits(), (wait,))

    def test_rings_of_two_waits(self):
        one, other = (("a", 1), ("b", 1)), (("b", 1), ("a", 1))
        self.assert_ring(FREE, [one, other], (one, other))
        # Through the order of both processes.
        one, other = (("a", 3), ("b", 1)), (("b", 2), ("a", 2))
        self.assert_ring(FREE, [one, other], (one, other))
        self.assertEqual(len(Order(FREE, [(("a", 2), ("b", 1)), (("b", 2), ("a", 3))]).waits()), 2)
        # Other waits that belong to no ring.
        more = [(("c", 1), ("a", 1)), (("b", 1), ("c", 3)), (("a", 3), ("c", 3))]
        self.assert_ring(FREE, [*more, one, other], (one, other))
        self.assert_ring(FREE, [one, more[0], other, *more[1:]], (one, other))

    def test_rings_of_three_waits(self):
        waits = [(("a", 2), ("b", 1)), (("b", 3), ("c", 2)), (("c", 2), ("a", 1))]
        for mixed in itertools.permutations(waits):
            self.assert_ring(FREE, mixed, tuple(waits))

    def test_rings_of_forty_waits(self):
        names = ["p" + one + other for one in "abcdefgh" for other in "vwxyz"]
        record = Record([(name, [("checkpoint",)] * 2) for name in names])
        waits = [((name, 2), (names[(at + 1) % 40], 1)) for at, name in enumerate(names)]
        self.assert_ring(record, waits, tuple(waits))
        self.assertEqual(Order(record, waits[1:]).waits(), tuple(waits[1:]))

    def test_rings_through_messages(self):
        # The wait of c for a and the message of a to b to c.
        record = read_record([
            "process a", "send b 1", "checkpoint", "process b", "take x 1 from a", "checkpoint", "process c", "checkpoint",
            "send d 5", "process d", "take y 5 from c", "checkpoint",
        ])
        one, other = (("b", 2), ("c", 1)), (("d", 1), ("a", 1))
        self.assert_ring(record, [one, other], (one, other))
        self.assert_ring(record, [other, (("a", 2), ("d", 2)), one], (one, other))
        self.assertEqual(len(Order(record, [one, (("d", 1), ("a", 2))]).waits()), 2)

    def test_rings_of_random_records(self):
        source = random.Random(32)
        rings = 0
        for repetition in range(400):
            rows = some_rows(source, source.randrange(2, 6), source.randrange(30))
            waits = some_waits(source, rows, source.randrange(8))
            ahead = closure(rows, waits)
            if any(event in ahead[event] for event in ahead):
                self.assert_ring(Record(rows), waits)
                rings += 1
            else:
                self.assertEqual(Order(Record(rows), waits).waits(), waits)
        self.assertGreater(rings, 50)

    def test_equal_arguments(self):
        waits = [(("a", 3), ("b", 1)), (("b", 2), ("a", 2)), (("a", 2), ("b", 2)), (("b", 3), ("a", 1))]
        self.assertEqual(raised(Order, FREE, waits), raised(Order, Record(rows_of(FREE)), tuple(map(list, waits))))


class CutsTest(unittest.TestCase):

    def test_the_example(self):
        order = Order(EXAMPLE)
        for cut in itertools.product(range(-1, 4), range(-1, 3)):
            self.assertIs(order.is_cut(cut), cut in ((0, 0), (1, 0), (2, 0), (1, 1), (2, 1)), cut)

    def test_things_that_are_no_cuts(self):
        order = Order(EXAMPLE)
        for thing in (
            None, True, False, 0, 1, "", "00", "ab", (), [], (0,), (0, 0, 0), [0, 0], [1, 1], (0, 1), (3, 0), (-1, 0), (2, -1),
            (2, 2), (True, 0), (1, True), (False, False), (0, None), (0, "0"), ((0, 0),), ([0], 0), ((0,), 0), (0, [0]), [[0, 0]],
            ("a", 1), (("a", 1), ("b", 1)), (10 ** 29, 0), nested(50000), (nested(50000), 0),
        ):
            self.assertIs(order.is_cut(thing), False)

    def test_cuts_of_random_records(self):
        source = random.Random(33)
        for repetition in range(100):
            rows = some_rows(source, source.randrange(1, 4), source.randrange(12))
            waits = some_waits(source, rows, source.randrange(3))
            ahead = closure(rows, waits)
            if any(event in ahead[event] for event in ahead):
                continue
            order = Order(Record(rows), waits)
            cuts = set(slow_cuts(rows, waits))
            for cut in itertools.product(*[range(len(events) + 2) for name, events in rows]):
                self.assertIs(order.is_cut(cut), cut in cuts)
            for count in range(4):
                events = [source.choice(list(ahead)) for repetition in range(count) if ahead]
                least = [cut for cut in cuts if all(cut[[n for n, e in rows].index(name)] >= number for name, number in events)]
                expected = tuple(min(numbers) for numbers in zip(*least))
                self.assertIn(expected, cuts)
                self.assertEqual(order.least_cut(events), expected)
                self.assertEqual(order.least_cut(tuple(map(list, events))), expected)

    def test_least_cuts(self):
        order = Order(CHAIN)
        self.assertEqual(order.least_cut([]), (0, 0, 0))
        self.assertEqual(order.least_cut(()), (0, 0, 0))
        self.assertIs(type(order.least_cut([])), tuple)
        self.assertEqual(order.least_cut([("c", 1)]), (0, 0, 1))
        self.assertEqual(order.least_cut([("c", 2)]), (2, 3, 2))
        self.assertEqual(order.least_cut([("b", 1), ("c", 3), ("a", 3), ("b", 1)]), (3, 3, 3))
        self.assertEqual(order.least_cut([["b", 2], ("a", 1)]), (2, 2, 0))
        order = Order(CHAIN, [(("c", 1), ("a", 2)), (("a", 3), ("b", 2))])
        self.assertEqual(order.least_cut([("a", 2)]), (2, 0, 1))
        self.assertEqual(order.least_cut([("b", 2)]), (3, 2, 1))

    def test_no_events(self):
        order = Order(Record([("a", []), ("b", [])]))
        self.assertIs(order.is_cut((0, 0)), True)
        self.assertIs(order.is_cut((0, 1)), False)
        self.assertEqual(order.least_cut([]), (0, 0))

    def test_nothing_is_changed(self):
        order = Order(CHAIN)
        events = [["c", 2], ("a", 1)]
        order.least_cut(events)
        self.assertEqual(events, [["c", 2], ("a", 1)])
        raised(order.least_cut, [("c", 2), None])
        self.assertEqual(order.least_cut([]), (0, 0, 0))


if __name__ == "__main__":
    unittest.main()
