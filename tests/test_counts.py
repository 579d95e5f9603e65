"""[29], [30]: messages under way, and counts of cuts and replays."""

import itertools
import math
import random
import unittest

from rerunrein.orders import Order, any_replay, count_cuts, count_replays, under_way
from rerunrein.records import Record, read_record
from tests.raised import raised
from tests.record_oracle import all_events, closure, slow_cuts, slow_replays, slow_under_way, some_rows, some_waits
from tests.test_records import frozen, nested

EXAMPLE = Record([("a", [("send", "b", 5), ("set", "x", 1)]), ("b", [("receive", "a", "x", 5)])])
TALK = read_record([
    "process c", "send a 1", "send a 2", "send b 3",
    "process a", "take x 1 from c", "send c 4", "send b 5", "receive x 2 from c",
    "process b", "take y 3 from c", "send a 6", "take y 5 from a", "send a 7",
])


def rows_of(record):
    return [(name, record.events(name)) for name in record.names()]


def is_live(rows, waits):
    ahead = closure(rows, waits)
    return not any(event in ahead[event] for event in ahead)


class UnderWayTest(unittest.TestCase):

    def test_the_example(self):
        self.assertEqual([under_way(EXAMPLE, cut) for cut in ((0, 0), (1, 0), (2, 0), (1, 1), (2, 1))], [
            [], [("a", "b", (5,))], [("a", "b", (5,))], [], [],
        ])

    def test_senders_and_receivers_in_order(self):
        self.assertEqual(under_way(TALK, (3, 3, 2)), [
            ("c", "a", (2,)), ("a", "c", (4,)), ("a", "b", (5,)), ("b", "a", (6,)),
        ])
        self.assertEqual(under_way(TALK, (3, 0, 0)), [("c", "a", (1, 2)), ("c", "b", (3,))])
        self.assertEqual(under_way(TALK, (3, 4, 4)), [("a", "c", (4,)), ("b", "a", (6, 7))])

    def test_every_cut(self):
        cuts = slow_cuts(rows_of(TALK))
        self.assertGreater(len(cuts), 20)
        for cut in itertools.product(range(5), repeat=3):
            if cut in cuts:
                result = under_way(TALK, cut)
                self.assertEqual(result, slow_under_way(rows_of(TALK), cut))
                self.assertEqual(under_way(TALK, list(cut)), result)
                self.assertIs(type(result), list)
                for channel in result:
                    self.assertEqual([type(channel), type(channel[2])], [tuple, tuple])
            else:
                self.assertEqual(raised(under_way, TALK, cut), ("BadCut", cut))
                self.assertEqual(raised(under_way, TALK, list(cut)), ("BadCut", cut))

    def test_random_records(self):
        source = random.Random(41)
        for repetition in range(60):
            rows = some_rows(source, source.randrange(1, 5), source.randrange(14))
            for cut in slow_cuts(rows):
                self.assertEqual(under_way(Record(rows), cut), slow_under_way(rows, cut))

    def test_things_that_are_no_cuts(self):
        for thing in (
            None, True, 0, "", "00", (), [], (0,), [0], (0, 0, 0), (0, 1), [0, 1], (3, 0), (-1, 0), (True, 0), [1, True],
            (0, None), ((0, 0),), [[0, 0]], [[0], 0], ("a", 1), (("a", 1), ("b", 1)),
        ):
            with self.subTest(thing):
                self.assertEqual(raised(under_way, EXAMPLE, thing), ("BadCut", frozen(thing)))
        with self.assertRaises(ValueError):
            under_way(EXAMPLE, nested(50000))

    def test_lists_belong_to_the_caller(self):
        cut = [3, 0, 0]
        under_way(TALK, cut).clear()
        self.assertEqual(under_way(record=TALK, cut=cut), [("c", "a", (1, 2)), ("c", "b", (3,))])
        self.assertEqual(cut, [3, 0, 0])


class CountsTest(unittest.TestCase):

    def test_the_example(self):
        self.assertEqual([count_cuts(Order(EXAMPLE)), count_replays(Order(EXAMPLE))], [5, 2])
        order = Order(EXAMPLE, [(("b", 1), ("a", 2))])
        self.assertEqual([count_cuts(order), count_replays(order)], [4, 1])

    def test_no_events(self):
        for names in ("a", "ab", "abcdefgh"):
            order = Order(Record([(name, []) for name in names]))
            self.assertEqual([count_cuts(order), count_replays(order), any_replay(order)], [1, 1, []])
            self.assertEqual([count_cuts(order, most=1), count_replays(order, most=1)], [1, 1])
            self.assertEqual(raised(count_cuts, order, most=0), ("TooMany", 0))
            self.assertEqual(raised(count_replays, order, most=0), ("TooMany", 0))

    def test_against_slow_counts(self):
        source = random.Random(42)
        for repetition in range(150):
            rows = some_rows(source, source.randrange(1, 5), source.randrange(9))
            waits = some_waits(source, rows, source.randrange(3))
            if not is_live(rows, waits):
                continue
            order = Order(Record(rows), waits)
            cuts, replays = slow_cuts(rows, waits), slow_replays(rows, waits)
            self.assertEqual(count_cuts(order), len(cuts))
            self.assertEqual(count_replays(order), len(replays))
            self.assertIn(tuple(any_replay(order)), replays)
            for count in (count_cuts, count_replays):
                self.assertEqual(count(order, most=len(cuts)), count(order))
                self.assertEqual(raised(count, order, most=len(cuts) - 1), ("TooMany", len(cuts) - 1))
                self.assertEqual(raised(count, order, most=0), ("TooMany", 0))

    def test_free_processes(self):
        order = Order(Record([(name, [("checkpoint",)] * 4) for name in "abc"]))
        self.assertEqual(count_cuts(order), 125)
        # There are many more replays than cuts, and most counts cuts.
        self.assertEqual(count_replays(order, most=125), math.factorial(12) // math.factorial(4) ** 3)
        self.assertEqual(raised(count_replays, order, most=124), ("TooMany", 124))

    def test_the_standard_limit(self):
        # 20000 cuts are 20 times 1000, and 20001 are 3 * 59 * 113.
        lengths = {20000: (9, 9, 9, 19), 20001: (2, 58, 112)}
        for cuts, numbers in lengths.items():
            record = Record([(name, [("checkpoint",)] * number) for name, number in zip("abcd", numbers)])
            order = Order(record)
            self.assertEqual(count_cuts(order, most=20001), cuts)
            for count in (count_cuts, count_replays):
                if cuts == 20000:
                    self.assertEqual(count(order), count(order, most=20000))
                else:
                    self.assertEqual(raised(count, order), ("TooMany", 20000))

    def test_most_is_passed_by_keyword(self):
        with self.assertRaises(TypeError):
            count_cuts(Order(EXAMPLE), 5)
        with self.assertRaises(TypeError):
            count_replays(Order(EXAMPLE), 5)
        self.assertEqual(count_cuts(order=Order(EXAMPLE), most=5), 5)
        self.assertEqual(count_replays(most=5, order=Order(EXAMPLE)), 2)

    def test_a_replay_keeps_the_order(self):
        source = random.Random(43)
        for repetition in range(100):
            rows = some_rows(source, source.randrange(1, 7), source.randrange(40))
            waits = some_waits(source, rows, source.randrange(4))
            if not is_live(rows, waits):
                continue
            replay = any_replay(Order(Record(rows), waits))
            self.assertIs(type(replay), list)
            self.assertEqual(sorted(replay), sorted(all_events(rows)))
            for event, others in closure(rows, waits).items():
                for other in others:
                    self.assertLess(replay.index(other), replay.index(event))
            self.assertEqual(replay, any_replay(Order(Record(rows), list(waits))))

    def test_a_replay_belongs_to_the_caller(self):
        order = Order(TALK)
        before = any_replay(order)
        any_replay(order).reverse()
        any_replay(order).clear()
        self.assertEqual(any_replay(order=order), before)
        self.assertEqual(sorted(before), sorted(all_events(rows_of(TALK))))


class LargeTest(unittest.TestCase):
    """Records as large as [7] allows, whose cuts nobody can count."""

    def test_eight_free_processes(self):
        order = Order(Record([(name, [("checkpoint",)] * 15) for name in "abcdefgh"]))
        self.assertEqual(raised(count_cuts, order), ("TooMany", 20000))
        self.assertEqual(raised(count_replays, order), ("TooMany", 20000))

    def test_a_chain_of_one_hundred_and_twenty_events(self):
        # Eight processes pass a message on and on: each event is ahead of the next one.
        names = "abcdefgh"
        rows = {name: [] for name in names}
        for turn in range(60):
            sender, receiver = names[turn % 8], names[(turn + 1) % 8]
            rows[sender].append(("send", receiver, turn))
            rows[receiver].append(("take", sender, "x", turn))
        order = Order(Record(list(rows.items())))
        self.assertEqual([count_cuts(order), count_replays(order)], [121, 1])
        self.assertEqual(count_cuts(order, most=121), 121)
        self.assertEqual(raised(count_cuts, order, most=120), ("TooMany", 120))

    def test_two_long_processes(self):
        order = Order(Record([("a", [("checkpoint",)] * 60), ("b", [("checkpoint",)] * 60)]))
        self.assertEqual([count_cuts(order), count_replays(order)], [61 * 61, math.comb(120, 60)])

    def test_forty_processes_and_four_hundred_events(self):
        names = ["p" + one + other for one in "abcdefgh" for other in "vwxyz"]
        rows = []
        for at, name in enumerate(names):
            other, before = names[(at + 1) % 40], names[at - 1]
            # Five messages each, and all send ahead of receiving.
            rows.append((name, [("send", other, at)] * 5 + [("take", before, "x", (at - 1) % 40)] * 5))
        record = Record(rows)
        order = Order(record)
        replay = any_replay(order)
        self.assertEqual(len(replay), 400)
        places = {event: place for place, event in enumerate(replay)}
        for event in replay:
            partner = record.partner(event)
            self.assertEqual(places[event] < places[partner], event[1] <= 5)
        waits = [((name, 10), (names[at + 1], 1)) for at, name in enumerate(names[:-1])]
        self.assertEqual(raised(Order, record, waits)[0], "NotLive")
        waits = [((name, 5), (names[at + 1], 6)) for at, name in enumerate(names[:-1])]
        order = Order(record, waits)
        self.assertEqual(len(any_replay(order)), 400)
        self.assertTrue(order.ahead((names[0], 1), (names[1], 10)))
        for event in replay:
            cut = order.least_cut([event])
            self.assertTrue(order.is_cut(cut))
            under_way(record, cut)

    def test_one_process_with_four_hundred_events(self):
        order = Order(Record([("a", [("set", "x", number) for number in range(400)])]))
        self.assertEqual([count_cuts(order), count_replays(order)], [401, 1])
        self.assertEqual(any_replay(order), [("a", number) for number in range(1, 401)])

    def test_a_process_that_gets_on_by_one_event_at_a_time(self):
        # The processes stand in the order in which they can go on least at a time.
        names = ["p" + one + other for one in "abcdefgh" for other in "vwxyz"]
        rows = {name: [] for name in names}
        for turn in range(5):
            for at in range(39, 0, -1):
                rows[names[at]].append(("send", names[at - 1], turn))
                rows[names[at - 1]].append(("receive", names[at], "x", turn))
        record = Record(list(rows.items()))
        self.assertEqual(len(any_replay(Order(record))), 390)


if __name__ == "__main__":
    unittest.main()
