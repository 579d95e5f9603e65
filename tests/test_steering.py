"""[2], [3], [5] to [7], [39] to [41], [43]: required pairs, waits that make every replay safe, or evidence."""

import itertools
import random
import unittest

from rerunrein.conditions import Conditions
from rerunrein.orders import Order
from rerunrein.records import Record, read_record
from rerunrein.steering import bad_cut, good_replay, is_evidence, is_steering, required, steer
from tests.condition_oracle import (
    busy_rows, busy_rules, lines_of, some_bounds, some_orders, some_rules, toggling_rows,
)
from tests.raised import raised
from tests.record_oracle import all_events, slow_replays, some_waits
from tests.steering_oracle import Look, slow_required

EXAMPLE = read_record(["process a", "set x 1", "set x 0", "process b", "set y 1", "set y 0"])
LOCK = ["hold a x = 1", "write a x = 1", "hold b y = 1"]
EITHER = ["either a x = 0", "either b y = 0"]
PAIR = read_record(["process a", "send b 1", "send b 2", "process b", "receive x 1 from a", "receive x 2 from a"])
ONE, OTHER = (("a", 2), ("b", 1)), (("b", 2), ("a", 1))


def producer(sent, received):
    return Record([("a", [("send", "b", 1)] * sent), ("b", [("receive", "a", "x", 1)] * received)])


def drawn(source, repetition):
    """A small record with conditions, of each kind and of mixed kinds."""
    if repetition % 2:
        rows = toggling_rows(source, source.randrange(1, 5), source.randrange(13))
        return rows, some_rules(source, rows)
    rows = busy_rows(source, source.randrange(2, 5), source.randrange(6, 15))
    return rows, busy_rules(source, rows)


class RequiredTest(unittest.TestCase):

    def test_the_example(self):
        result = required(Conditions(PAIR, ["bound a b 1"]))
        self.assertEqual(result, [(0, ("b", 1), ("a", 2))])
        self.assertEqual([type(result), type(result[0]), type(result[0][1])], [list, tuple, tuple])

    def test_bounds(self):
        for most, expected in (
            (0, [(0, ("b", 1), ("a", 1)), (0, ("b", 2), ("a", 2))]), (1, [(0, ("b", 1), ("a", 2))]), (2, []), (3, []),
            (10 ** 30 - 1, []),
        ):
            self.assertEqual(required(conditions=Conditions(PAIR, [f"bound a b {most}"])), expected)
        self.assertEqual(required(Conditions(producer(5, 5), ["bound a b 2"])), [
            (0, ("b", 1), ("a", 3)), (0, ("b", 2), ("a", 4)), (0, ("b", 3), ("a", 5)),
        ])
        self.assertEqual(required(Conditions(PAIR, ["bound b a 0"])), [])

    def test_a_message_that_is_never_received(self):
        self.assertEqual(required(Conditions(producer(4, 1), ["bound a b 2"])), [(0, ("b", 1), ("a", 3))])
        self.assertEqual(required(Conditions(producer(4, 0), ["bound a b 0"])), [])
        self.assertEqual(required(Conditions(producer(4, 2), ["bound a b 0"])), [(0, ("b", 1), ("a", 1)), (0, ("b", 2), ("a", 2))])

    def test_orders(self):
        lines = ["order a 1 b 2", "order b 1 a 1", "order a 1 a 2", "order a 2 a 1", "order a 1 b 2"]
        self.assertEqual(required(Conditions(EXAMPLE, lines)), [
            (0, ("a", 1), ("b", 2)), (1, ("b", 1), ("a", 1)), (2, ("a", 1), ("a", 2)), (3, ("a", 2), ("a", 1)),
            (4, ("a", 1), ("b", 2)),
        ])

    def test_other_lines(self):
        self.assertEqual(required(Conditions(EXAMPLE, [])), [])
        self.assertEqual(required(Conditions(EXAMPLE, LOCK)), [])
        self.assertEqual(required(Conditions(EXAMPLE, EITHER + ["order a 1 b 1"])), [(2, ("a", 1), ("b", 1))])

    def test_both_kinds_in_any_order(self):
        source = random.Random(91)
        for repetition in range(200):
            rows = toggling_rows(source, source.randrange(2, 4), source.randrange(30))
            names = [name for name, events in rows]
            rules = some_orders(source, rows, 3) + some_bounds(source, names, 3)
            source.shuffle(rules)
            self.assertEqual(required(Conditions(Record(rows), lines_of(rules))), slow_required(rows, rules))

    def test_lists_belong_to_the_caller(self):
        conditions = Conditions(PAIR, ["bound a b 1"])
        required(conditions).clear()
        self.assertEqual(required(conditions), [(0, ("b", 1), ("a", 2))])


class ExamplesTest(unittest.TestCase):

    def assert_waits(self, record, lines, *possible):
        conditions = Conditions(record, lines)
        result = steer(conditions)
        self.assertEqual([len(result), type(result), type(result[1]), type(result[2])], [3, tuple, tuple, tuple])
        self.assertIn(result[1], possible)
        self.assertIs(is_steering(conditions, result), True)
        self.assertIsNone(bad_cut(conditions, result[1]))
        self.assertIsNotNone(good_replay(conditions))
        return result

    def assert_never(self, record, lines, *possible):
        conditions = Conditions(record, lines)
        result = steer(conditions)
        self.assertEqual((len(result), result[0]), (2, "never"))
        self.assertIn(result[1], possible)
        self.assertIs(is_evidence(conditions, result[1]), True)
        self.assertIsNone(good_replay(conditions))

    def test_no_lines(self):
        for record in (EXAMPLE, PAIR, Record([("a", [])])):
            self.assertEqual(steer(Conditions(record, [])), ("waits", (), ()))
            self.assertIsNone(bad_cut(Conditions(record, []), []))

    def test_the_lock(self):
        result = self.assert_waits(EXAMPLE, LOCK, (ONE,), (OTHER,))
        self.assertEqual(result[2], ((1, 1),))

    def test_readers_may_be_together(self):
        self.assert_waits(EXAMPLE, ["hold a x = 1", "hold b y = 1"], ())
        self.assert_waits(EXAMPLE, ["write a x = 1", "hold b y = 1", "write b y = 1"], ())

    def test_the_alternative(self):
        self.assert_waits(EXAMPLE, EITHER, (ONE,), (OTHER,))
        self.assert_never(EXAMPLE, ["either a x = 0"], ("overlap", (("a", 1, 1),)))
        self.assert_waits(EXAMPLE, ["either a x = 0", "either a x = 1"], ())

    def test_bounds(self):
        self.assert_waits(PAIR, ["bound a b 1"], ((("b", 1), ("a", 2)),))
        self.assert_waits(PAIR, ["bound a b 2", "bound b a 0"], ())
        self.assert_never(PAIR, ["bound a b 0"], *[("ring", ((0, ("b", at), ("a", at)),)) for at in (1, 2)])
        self.assert_never(producer(3, 1), ["bound a b 1"], ("end", 0))
        self.assert_never(producer(1, 0), ["bound b a 0", "bound a b 0"], ("end", 1))
        self.assert_waits(producer(3, 1), ["bound a b 2"], ((("b", 1), ("a", 3)),))

    def test_orders(self):
        self.assert_waits(EXAMPLE, ["order a 2 b 1"], (ONE,))
        self.assert_waits(EXAMPLE, ["order a 1 a 2"], ())
        self.assert_never(EXAMPLE, ["order a 2 a 1"], ("ring", ((0, ("a", 2), ("a", 1)),)))
        self.assert_waits(PAIR, ["order a 1 b 1"], ())
        # The second wait follows from the first one.
        self.assert_waits(EXAMPLE, ["order a 1 b 2", "order a 2 b 1", "order a 2 b 1"], (ONE,))
        first, second = (0, ("a", 2), ("b", 1)), (1, ("b", 2), ("a", 1))
        self.assert_never(EXAMPLE, ["order a 2 b 1", "order b 2 a 1"], ("ring", (first, second)), ("ring", (second, first)))

    def test_several_kinds_at_once(self):
        # The order decides who comes first.
        self.assert_waits(EXAMPLE, LOCK + ["order a 1 b 1"], (ONE,))
        self.assert_waits(EXAMPLE, LOCK + ["order a 2 b 1"], (ONE,))
        self.assert_waits(EXAMPLE, LOCK + ["order b 2 a 1"], (OTHER,))
        # Each enters its section before the other one leaves it.
        self.assert_never(EXAMPLE, LOCK + ["order a 1 b 2", "order b 1 a 2"], ("sections", (("a", 1, 1), ("b", 1, 1))))
        self.assert_never(EXAMPLE, EITHER + ["order a 1 b 2", "order b 1 a 2"], ("overlap", (("a", 1, 1), ("b", 1, 1))))

    def test_sections_at_the_ends(self):
        begin, end = ["hold a x = 0", "write a x = 0"], ["hold b y = 1"]
        record = read_record(["process a", "set x 1", "process b", "set y 1"])
        self.assert_waits(record, begin + end, ((("a", 1), ("b", 1)),))
        self.assert_never(record, begin + ["hold b y = 0"], ("sections", (("a", 0, 0), ("b", 0, 0))))
        self.assert_never(record, ["hold a x = 1", "write a x = 1"] + end, ("sections", (("a", 1, 1), ("b", 1, 1))))
        self.assert_never(record, ["hold a 0 = 0", "write b y = 1"] + end, ("sections", (("b", 1, 1), ("a", 0, 1))))
        self.assert_waits(record, ["hold a 0 = 0", "write a 0 = 0"], ())

    def test_gaps_at_the_ends(self):
        record = read_record(["process a", "set x 1", "process b", "set y 1"])
        self.assert_waits(record, ["either a x = 1", "either b y = 0"], ((("a", 1), ("b", 1)),))
        self.assert_never(record, ["either a x = 1", "either b y = 1"], ("overlap", (("a", 0, 0), ("b", 0, 0))))
        self.assert_never(record, ["either a x = 0", "either b y = 0"], ("overlap", (("a", 1, 1), ("b", 1, 1))))
        self.assert_never(record, ["either a x = 2"], ("overlap", (("a", 0, 1),)))
        self.assert_waits(record, ["either a x = 2", "either b y < 5"], ())

    def test_three_processes_take_turns(self):
        record = read_record([
            "process a", "set x 1", "set x 0", "process b", "set x 1", "process c", "set x 1", "set x 0", "set x 1",
        ])
        lines = [f"either {name} x = 1" for name in "abc"]
        self.assert_never(record, lines, ("overlap", (("a", 0, 0), ("b", 0, 0), ("c", 0, 0))))
        self.assert_waits(record, ["either a x = 0", "either b x = 1"], ((("b", 1), ("a", 1)),))

    def test_a_message_within_a_section(self):
        # b cannot leave its section before a has entered its one.
        record = read_record([
            "process a", "set x 1", "send b 1", "set x 0", "process b", "set y 1", "receive z 1 from a", "set y 0",
        ])
        self.assert_waits(record, LOCK, ((("a", 3), ("b", 1)),))
        lines = ["process a", "set x 1", "receive w 2 from b", "send b 1", "set x 0"]
        record = read_record(lines + ["process b", "set y 1", "send a 2", "receive z 1 from a", "set y 0"])
        self.assert_never(record, LOCK, ("sections", (("a", 1, 3), ("b", 1, 3))))

    def test_a_chain_through_readers(self):
        # The writer is ahead of one reader, that one ahead of another one, and that one ahead of the writer.
        record = read_record([
            "process w", "set x 1", "send r 1", "receive y 3 from s", "set x 0",
            "process r", "set x 1", "receive y 1 from w", "set x 0",
            "process s", "set x 1", "send w 3", "set x 0",
        ])
        lines = [f"hold {name} x = 1" for name in "wrs"]
        self.assert_waits(record, lines, ())
        lines.append("write w x = 1")
        self.assert_waits(record, lines[:1] + lines[3:], ())
        conditions = Conditions(record, lines + ["order r 1 s 3"])
        self.assertEqual(steer(conditions), ("never", ("sections", (("w", 1, 3), ("r", 1, 2), ("s", 1, 2)))))

    def test_a_writer_beside_readers_that_are_together(self):
        # The sections of a and c overlap in every replay; those of b come ahead of both or behind both.
        meet = ["set x 1", "send {0} 1", "receive y 1 from {0}", "set x 0"]
        alone = ["set x 1", "set x 0", "set x 1", "set x 0"]
        for order in itertools.permutations("abc"):
            bodies = {"a": [line.format("c") for line in meet], "b": alone, "c": [line.format("a") for line in meet]}
            record = read_record([line for name in order for line in ["process " + name, *bodies[name]]])
            conditions = Conditions(record, [f"hold {name} x = 1" for name in "abc"] + ["write b x = 1"])
            result = steer(conditions)
            self.assertEqual(result[0], "waits")
            self.assertIs(is_steering(conditions, result), True)
            look = Look([(name, record.events(name)) for name in order], [
                *[("hold", name, ("=", ("variable", "x"), ("number", 1))) for name in "abc"],
                ("write", "b", ("=", ("variable", "x"), ("number", 1))),
            ])
            self.assertTrue(look.is_steering(result[1], result[2]))
            self.assertTrue(look.is_good_replay(good_replay(conditions)))

    def test_keywords(self):
        conditions = Conditions(EXAMPLE, LOCK)
        self.assertEqual(steer(conditions=conditions), steer(conditions))
        self.assertEqual(good_replay(conditions=conditions), good_replay(conditions))
        self.assertEqual(bad_cut(waits=[], conditions=conditions), (1, 1))


class PromiseTest(unittest.TestCase):

    def test_against_all_cuts(self):
        source = random.Random(92)
        counts = {}
        for repetition in range(700):
            rows, rules = drawn(source, repetition)
            look = Look(rows, rules)
            conditions = Conditions(Record(rows), lines_of(rules))
            result, replay = steer(conditions), good_replay(conditions)
            if look.can_be_good():
                self.assertEqual(result[0], "waits", (rows, rules))
                self.assertTrue(look.is_steering(result[1], result[2]), (rows, rules, result))
                self.assertIs(is_steering(conditions, result), True)
                self.assertIs(type(replay), list)
                self.assertTrue(look.is_good_replay(replay))
                kind = min(len(result[1]), 3)
            else:
                self.assertEqual((len(result), result[0]), (2, "never"), (rows, rules))
                self.assertTrue(look.is_evidence(*result[1]), (rows, rules, result))
                self.assertIs(is_evidence(conditions, result[1]), True)
                self.assertIsNone(replay)
                kind = result[1][0]
            counts[kind] = counts.get(kind, 0) + 1
            again = Conditions(Record(list(rows)), tuple(conditions.lines()))
            self.assertEqual([steer(again), good_replay(again)], [result, replay])
            for at in range(len(result[1]) if result[0] == "waits" else 0):
                self.check_bad_cut(look, conditions, result[1][:at] + result[1][at + 1:])
            for waits in ((), some_waits(source, rows, 1), some_waits(source, rows, 3), tuple(result[1]) * (result[0] == "waits")):
                self.check_bad_cut(look, conditions, waits)
        for kind in (0, 1, 2, 3, "end", "ring", "sections", "overlap"):
            self.assertGreater(counts[kind], 10, kind)

    def check_bad_cut(self, look, conditions, waits):
        if not look.is_live(waits):
            self.assertEqual(raised(bad_cut, conditions, waits), raised(Order, conditions.record(), waits))
            return
        bad = look.bad_cuts(waits)
        result = bad_cut(conditions, waits)
        if bad:
            self.assertIn(result, bad)
            self.assertIs(type(result), tuple)
        else:
            self.assertIsNone(result)
        self.assertEqual(bad_cut(conditions, [[list(one), list(other)] for one, other in waits]), result)

    def test_against_all_replays(self):
        # Waits just if some replay passes good states alone, by a look at every replay.
        source = random.Random(93)
        found = {"waits": 0, "never": 0}
        for repetition in range(150):
            rows = busy_rows(source, source.randrange(2, 4), source.randrange(4, 8))
            rules = busy_rules(source, rows)
            look = Look(rows, rules)
            conditions = Conditions(Record(rows), lines_of(rules))
            good = [replay for replay in slow_replays(rows) if look.is_good_replay(list(replay))]
            result = steer(conditions)
            self.assertEqual(result[0], "waits" if good else "never")
            if good:
                self.assertIn(tuple(good_replay(conditions)), good)
                steered = slow_replays(rows, result[1])
                self.assertTrue(steered)
                self.assertLessEqual(set(steered), set(good))
            found[result[0]] += 1
        for count in found.values():
            self.assertGreater(count, 30)


class BadCutTest(unittest.TestCase):

    def test_results(self):
        conditions = Conditions(EXAMPLE, LOCK)
        self.assertEqual(bad_cut(conditions, ()), (1, 1))
        self.assertIsNone(bad_cut(conditions, [ONE]))
        self.assertIsNone(bad_cut(conditions, [[["b", 2], ["a", 1]]]))
        self.assertEqual(bad_cut(conditions, [(("a", 1), ("b", 1))]), (1, 1))
        self.assertIsNone(bad_cut(conditions, [ONE, ONE]))

    def test_the_end(self):
        conditions = Conditions(producer(3, 1), ["bound a b 1"])
        self.assertIn(bad_cut(conditions, []), [(2, 0), (3, 0), (3, 1)])
        self.assertEqual(bad_cut(conditions, [(("b", 1), ("a", 2))]), (3, 1))

    def test_errors(self):
        conditions = Conditions(EXAMPLE, LOCK)
        for waits in ([None], [ONE, 5], [ONE, (("a", 1), ("a", 2))], [(("a", 3), ("b", 1))], [ONE, (("a", True), ("b", 1))]):
            self.assertEqual(raised(bad_cut, conditions, waits), ("BadWait", len(waits) - 1))
        error = raised(bad_cut, conditions, [ONE, OTHER])
        self.assertEqual(error, raised(Order, EXAMPLE, [ONE, OTHER]))
        self.assertEqual(error[0], "NotLive")

    def test_nothing_is_changed(self):
        conditions = Conditions(EXAMPLE, LOCK)
        waits = [[["a", 2], ["b", 1]]]
        bad_cut(conditions, waits)
        self.assertEqual(waits, [[["a", 2], ["b", 1]]])
        self.assertEqual(conditions.lines(), LOCK)
        good_replay(conditions).clear()
        self.assertEqual(len(good_replay(conditions)), 4)


class LargeTest(unittest.TestCase):
    """Records as large as [7] allows."""

    def check(self, rows, lines):
        conditions = Conditions(Record(rows), lines)
        result = steer(conditions)
        if result[0] == "never":
            self.assertIs(is_evidence(conditions, result[1]), True)
            self.assertIsNone(good_replay(conditions))
        else:
            self.assertIs(is_steering(conditions, result), True)
            self.assertIsNone(bad_cut(conditions, result[1]))
            for at in range(0, len(result[1]), 9):
                self.assertIsNotNone(bad_cut(conditions, result[1][:at] + result[1][at + 1:]))
            replay = good_replay(conditions)
            self.assertEqual(sorted(replay), sorted(all_events(rows)))
            numbers = dict.fromkeys(conditions.record().names(), 0)
            for name, number in replay:
                numbers[name] = number
                self.assertIsNone(conditions.broken(tuple(numbers.values())))
        return result

    def test_a_lock_of_free_processes(self):
        rows = [(name, [("set", "x", number % 2) for number in range(1, 16)]) for name in "abcdefgh"]
        hold, write = [f"hold {name} x = 1" for name in "abcdefgh"], [f"write {name} x = 1" for name in "abcdefgh"]
        # All last to the end in a section.
        self.assertEqual(self.check(rows, hold + write)[1][0], "sections")
        rows = [(name, events[:14]) for name, events in rows]
        self.assertEqual(self.check(rows, hold + write)[0], "waits")
        self.assertEqual(self.check(rows, hold + write[::3])[0], "waits")
        self.assertEqual(self.check(rows, hold), ("waits", (), ()))

    def test_an_alternative_of_free_processes(self):
        rows = [(name, [("set", "x", number % 2) for number in range(1, 16)]) for name in "abcdefgh"]
        self.assertEqual(self.check(rows, [f"either {name} x = 1" for name in "abcdefgh"])[1][0], "overlap")
        lines = [f"either {name} x = {at % 2}" for at, name in enumerate("abcdefgh")]
        self.assertEqual(self.check(rows, lines)[0], "waits")

    def test_long_channels(self):
        rows = [("a", [("send", "b", 1)] * 60), ("b", [("receive", "a", "x", 1)] * 60)]
        for most in (1, 2, 30, 59, 60):
            result = self.check(rows, [f"bound a b {most}"])
            self.assertEqual((result[0], len(result[1])), ("waits", 60 - most))
        self.assertEqual(self.check(rows, ["bound a b 0"])[1][0], "ring")

    def test_drawn_records(self):
        source = random.Random(94)
        kinds = set()
        for repetition in range(24):
            rows = busy_rows(source, 8, 120)
            names = [name for name, events in rows]
            rules = busy_rules(source, rows)
            while len(rules) < 40 and repetition % 2:
                one, other = source.sample(all_events(rows), 2)
                if one[1] < other[1]:
                    rules.append(("order", *one, *other))
            if repetition % 3 == 0:
                used = [rule[1:3] for rule in rules if rule[0] == "bound"]
                rules += [rule[:3] + (6,) for rule in some_bounds(source, names, 9) if rule[1:3] not in used]
            kinds.add(self.check(rows, lines_of(rules[:40]))[0])
        self.assertEqual(kinds, {"waits", "never"})

    def test_many_lines_of_orders(self):
        # Every process waits for the one ahead of it, event by event.
        names = "abcdefgh"
        rows = [(name, [("checkpoint",)] * 15) for name in names]
        lines = [f"order {one} {at + 1} {other} {at}" for one, other in itertools.pairwise(names) for at in range(1, 6)]
        self.assertEqual(len(self.check(rows, lines)[1]), 35)
        self.assertEqual(self.check(rows, lines + ["order h 5 a 3"])[1][0], "ring")


if __name__ == "__main__":
    unittest.main()
