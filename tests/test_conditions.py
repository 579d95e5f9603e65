"""[3], [6], [36] to [38]: conditions on the states of replays."""

import itertools
import random
import unittest

from rerunrein.conditions import Conditions
from rerunrein.records import Record, read_record
from tests.condition_oracle import (
    lines_of, slow_broken, slow_gaps, slow_sections, some_alternative, some_lock, some_rules, toggling_rows,
)
from tests.oracle import RESERVED, some_condition, spaced, write_condition
from tests.raised import raised
from tests.record_oracle import slow_cuts
from tests.test_records import frozen, nested

EXAMPLE = read_record(["process a", "set x 1", "set x 0", "process b", "set y 1", "set y 0"])
LOCK = ["hold a x = 1", "write a x = 1", "hold b y = 1"]
TALK = read_record([
    "process a", "send b 1", "send b 2", "send b 3", "receive x 9 from b",
    "process b", "take x 1 from a", "send a 9", "receive x 2 from a",
    "process c", "set x 5",
])


def rows_of(record):
    return [(name, record.events(name)) for name in record.names()]


def one_process(*values):
    """A process that sets x to each of these integers; at first it is 0."""
    return Record([("a", [("set", "x", value) for value in values])])


class LinesTest(unittest.TestCase):

    def assert_lines(self, record, lines, expected=None):
        self.assertEqual(Conditions(record, lines).lines(), list(lines) if expected is None else expected)

    def assert_bad(self, lines, line, reason, record=EXAMPLE):
        self.assertEqual(raised(Conditions, record, lines), ("BadConditions", line, reason), lines)

    def test_no_lines(self):
        for lines in ([], ()):
            conditions = Conditions(EXAMPLE, lines)
            self.assertEqual(conditions.lines(), [])
            for cut in itertools.product(range(3), repeat=2):
                self.assertIsNone(conditions.broken(cut))

    def test_each_form(self):
        self.assert_lines(EXAMPLE, ["order a 1 b 2"])
        self.assert_lines(EXAMPLE, ["order a 2 a 1", "order b 1 b 2"])
        self.assert_lines(EXAMPLE, ["bound a b 0", "bound b a " + "9" * 30])
        self.assert_lines(EXAMPLE, LOCK)
        self.assert_lines(EXAMPLE, ["either a x = 1", "either a x = 1", "either b y = 0", "either a x = 1"])
        self.assert_lines(EXAMPLE, ("write b y = 0",))

    def test_canonical_conditions(self):
        self.assert_lines(
            EXAMPLE, ["hold a  x=1", "hold b [[y  = 1 or(x)<2]]  ", "write b not[ x=1 and y=2 ]", "order a 1 b 1"],
            ["hold a x = 1", "hold b y = 1 or x < 2", "write b not [x = 1 and y = 2]", "order a 1 b 1"],
        )
        self.assert_lines(EXAMPLE, ["either a -(x)<- -3 "], ["either a -x < --3"])

    def test_canonical_conditions_of_random_texts(self):
        source = random.Random(61)
        for repetition in range(200):
            words, node = some_condition(source, 3)
            word = source.choice(("hold", "write", "either"))
            text = " ".join(words) if source.randrange(2) else spaced(source, words)
            conditions = Conditions(EXAMPLE, [f"{word} b {text}"])
            self.assertEqual(conditions.lines(), [f"{word} b {write_condition(node)}"])
            self.assertEqual(Conditions(EXAMPLE, conditions.lines()).lines(), conditions.lines())

    def test_lines_of_no_form(self):
        for line in (
            "", " ", "a", "order", "bound", "hold", "write", "either", "orders a 1 b 1", "Order a 1 b 1", "hold a", "hold a ",
            "either b", "either b ", "write a  ", "order ", "order a", "order a 1", "order a 1 b", "order a 1 b 1 1", "order a 1 b 1 ",
            " order a 1 b 1", "order  a 1 b 1", "order a  1 b 1", "order a 1  b 1", "order a 1 b  1", "order 1 a 1 b", "order a b 1 1",
            "order a -1 b 1", "order a +1 b 1", "order a 01 b 1", "order a 1 b 00", "order a 1 b x", "order a 1.0 b 1",
            "order a " + "1" * 31 + " b 1", "order a 1 b " + "1" * 31, "order A 1 b 1", "order a 1 B 1", "order abcdefghi 1 b 1",
            "bound a b", "bound a b ", "bound a b 1 1", "bound a 1 b", "bound a b -1", "bound a b 01", "bound a b +1", "bound a  b 1",
            "bound  a b 1", "bound a b  1", " bound a b 1", "bound a b 1 ", "bound a b " + "9" * 31, "bound a b c", "bound a1 b 1",
            "hold a x", "hold a x = ", "hold a (x = 1)", "hold a x = 1 = 1", "hold x = 1", " hold a x = 1", "hold  a x = 1",
            "hold A x = 1", "hold a1 x = 1", "hold a x = 01", "hold a x == 1", "hold a x = 1 and", "hold a = 1", "hold abcdefghi x = 1",
            "write a set = 1", "either a x + 1", "either a x = " + "1" * 31, "Either a x = 1", "hold\ta x = 1", "hold a\nx = 1",
            "process a", "set x 1", "or a x = 1", "hold a b 1", "either a b 1", "x a b 1", "order a b 1", "bound a 1 b 1", "hold a 1 b 1",
            "either a 1 b 1", "x a 1 b 1", "a b 1", "a 1 b 1",
        ):
            with self.subTest(line):
                self.assert_bad([line], 0, "line")
                self.assert_bad(["hold c x = 1", "bound a a 1", line, "?"], 2, "line")

    def test_reserved_words_are_no_names(self):
        for word in RESERVED:
            for line in (
                f"order {word} 1 b 1", f"order a 1 {word} 1", f"bound {word} b 1", f"bound a {word} 1", f"hold {word} x = 1",
                f"write {word} x = 1", f"either {word} x = 1",
            ):
                self.assert_bad([line], 0, "line")

    def test_words_of_lines_are_names(self):
        names = ("order", "bound", "hold", "write", "either")
        record = Record([(name, [("set", name, 1)]) for name in names])
        for one, other in itertools.permutations(names, 2):
            lines = [f"order {one} 1 {other} 1", f"bound {one} {other} 1", f"hold {one} {other} = 1", f"write {one} {one} = 1"]
            self.assert_lines(record, lines)
            self.assert_lines(record, [f"either {one} {one} = 1"])

    def test_processes(self):
        for line in (
            "order c 1 b 1", "order a 1 c 1", "order y 5 y 5", "bound a c 1", "bound c a 1", "bound a a 1", "bound b b 0", "bound c c 1",
            "hold c x = 1", "write x x = 1", "either c x = 1", "either abcdefgh x = 1",
        ):
            with self.subTest(line):
                self.assert_bad([line], 0, "process")
                self.assert_bad(["order a 9 b 1", *LOCK, *LOCK, "either a x = 1", line], 8, "process")

    def test_events(self):
        for line in (
            "order a 0 b 1", "order a 1 b 0", "order a 3 b 1", "order a 1 b 3", "order a 1 a 1", "order b 2 b 2", "order a 0 a 0",
            "order a 1 b " + "9" * 30, "order a 3 a 1",
        ):
            with self.subTest(line):
                self.assert_bad([line], 0, "event")
                self.assert_bad(["order a 2 b 2", *LOCK, *LOCK, "either a x = 1", "bound a b 5", line], 9, "event")
        self.assert_bad(["order a 1 b 1"], 0, "event", Record([("a", []), ("b", [])]))

    def test_kinds(self):
        either = "either b y = 0"
        for line in ("hold a x = 1", "write a x = 1"):
            self.assert_bad([line, either], 1, "kind")
            self.assert_bad([either, line], 1, "kind")
            self.assert_bad([line, either, either, line], 1, "kind")
            self.assert_bad([either, either, line, either, line], 2, "kind")
            self.assert_bad(["order a 1 b 1", line, "bound a b 1", line, "order a 1 b 1", either], 5, "kind")
            self.assert_bad([either, "order a 1 b 1", line], 2, "kind")

    def test_twice(self):
        self.assert_bad(["hold a x = 1", "hold a x = 1"], 1, "twice")
        self.assert_bad(["hold a x = 1", "hold b x = 1", "write a x = 1", "hold a x = 2"], 3, "twice")
        self.assert_bad(["write a x = 1", "hold a x = 1", "write a x = 2", "hold a x = 1"], 2, "twice")
        self.assert_bad(["bound a b 1", "bound b a 1", "bound a b 2", "bound b a 1"], 2, "twice")
        self.assert_lines(EXAMPLE, ["bound a b 1", "bound b a 1", "order a 1 b 1", "order a 1 b 1"])
        self.assert_lines(EXAMPLE, ["hold a x = 1", "write a x = 1", "hold b x = 1", "write b x = 1"])

    def test_each_check_is_made_for_all_lines_first(self):
        bad = {
            "line": ["hold a x"], "process": ["hold c x = 1"], "event": ["order a 1 a 1"],
            "kind": ["hold b x = 1", "either a x = 1"], "twice": ["bound a b 1", "bound a b 1"],
        }
        for first, later in itertools.combinations(bad, 2):
            self.assert_bad(bad[later] + bad[first], len(bad[later]) + len(bad[first]) - 1, first)
            self.assert_bad(bad[first] + bad[later], len(bad[first]) - 1, first)

    def test_many_lines(self):
        lines = ["either a x = 1"] * 38 + ["order a 1 b 1", "bound a b 3"]
        self.assert_lines(EXAMPLE, lines)
        self.assert_lines(EXAMPLE, lines + lines[:20])

    def test_keywords_and_record(self):
        conditions = Conditions(lines=LOCK, record=EXAMPLE)
        self.assertEqual(conditions.record(), EXAMPLE)
        self.assertEqual(conditions.sections(name="a"), [(1, 1, True)])
        self.assertEqual(conditions.gaps(name="a"), [(0, 2)])
        self.assertEqual(conditions.broken(cut=(1, 1)), ("lock", "a", "b"))

    def test_changes_of_what_was_passed_or_returned(self):
        lines = list(LOCK)
        conditions = Conditions(EXAMPLE, lines)
        self.assertEqual(lines, LOCK)
        lines[0] = "?"
        lines.append("?")
        for returned in (conditions.lines(), conditions.sections("a"), conditions.gaps("a")):
            self.assertIs(type(returned), list)
            returned.append(5)
            returned.reverse()
        self.assertEqual(conditions.lines(), LOCK)
        self.assertEqual(conditions.sections("a"), [(1, 1, True)])
        self.assertEqual(conditions.gaps("a"), [(0, 2)])

    def test_equality(self):
        conditions = Conditions(EXAMPLE, LOCK)
        self.assertEqual(conditions, conditions)
        for other in (Conditions(EXAMPLE, LOCK), Conditions(EXAMPLE, ["hold a x = 1"]), LOCK, None, EXAMPLE):
            self.assertNotEqual(conditions, other)


class SectionsTest(unittest.TestCase):

    def test_the_example(self):
        conditions = Conditions(EXAMPLE, LOCK)
        self.assertEqual(conditions.sections("a"), [(1, 1, True)])
        self.assertEqual(conditions.sections("b"), [(1, 1, False)])
        self.assertIs(type(conditions.sections("a")[0]), tuple)
        self.assertIs(conditions.sections("a")[0][2], True)
        self.assertIs(conditions.sections("b")[0][2], False)

    def test_places(self):
        record = one_process(0, 1, 1, 0, 1, 0, 0)
        for condition, expected in (
            ("x = 1", [(2, 3), (5, 5)]), ("x = 0", [(0, 1), (4, 4), (6, 7)]), ("x = 2", []), ("x < 2", [(0, 7)]),
        ):
            sections = [(first, last, False) for first, last in expected]
            self.assertEqual(Conditions(record, [f"hold a {condition}"]).sections("a"), sections)
            self.assertEqual(Conditions(record, [f"either a not [{condition}]"]).gaps("a"), expected)

    def test_neighbouring_states(self):
        # Each event makes a state of its own, also one that changes nothing.
        record = Record([("a", [("checkpoint",), ("set", "y", 1), ("set", "x", 1), ("checkpoint",), ("set", "x", 2)])])
        self.assertEqual(Conditions(record, ["hold a x = 0"]).sections("a"), [(0, 2, False)])
        self.assertEqual(Conditions(record, ["hold a x = 1"]).sections("a"), [(3, 4, False)])
        self.assertEqual(Conditions(record, ["hold a x = 2"]).sections("a"), [(5, 5, False)])
        self.assertEqual(Conditions(record, ["hold a x != 1", "write a y = 1"]).sections("a"), [(0, 2, True), (5, 5, True)])

    def test_no_events(self):
        record = Record([("a", [])])
        self.assertEqual(Conditions(record, ["hold a x = 0", "write a 0 = 0"]).sections("a"), [(0, 0, True)])
        self.assertEqual(Conditions(record, ["hold a x = 1"]).sections("a"), [])
        self.assertEqual(Conditions(record, ["either a x = 0"]).gaps("a"), [])
        self.assertEqual(Conditions(record, ["either a x = 1"]).gaps("a"), [(0, 0)])
        self.assertEqual(Conditions(record, []).gaps("a"), [(0, 0)])

    def test_writing(self):
        record = one_process(1, 2, 3, 0, 1, 2, 0, 3)
        hold = "hold a x > 0"
        for write, expected in (
            ("x = 1", [True, True, False]), ("x = 2", [True, True, False]), ("x = 3", [True, False, True]),
            ("x = 0", [False, False, False]), ("x > 0", [True, True, True]), ("x != 9", [True, True, True]),
        ):
            for lines in ([hold, f"write a {write}"], [f"write a {write}", hold]):
                sections = Conditions(record, lines).sections("a")
                self.assertEqual(sections, [(1, 3, expected[0]), (5, 6, expected[1]), (8, 8, expected[2])])

    def test_a_write_line_without_a_hold_line(self):
        conditions = Conditions(EXAMPLE, ["write a x = 1", "hold b y = 1", "write b y = 1"])
        self.assertEqual(conditions.sections("a"), [])
        for cut in itertools.product(range(3), repeat=2):
            self.assertIsNone(conditions.broken(cut))

    def test_faults_count_as_false(self):
        record = one_process(1, 0, 2)
        self.assertEqual(Conditions(record, ["hold a 2 // x >= 1"]).sections("a"), [(1, 1, False), (3, 3, False)])
        self.assertEqual(Conditions(record, ["hold a x < 9", "write a 2 // x = 1"]).sections("a"), [(0, 3, True)])
        self.assertEqual(Conditions(record, ["hold a x < 9", "write a 2 // 0 = 1"]).sections("a"), [(0, 3, False)])
        self.assertEqual(Conditions(record, ["hold a not 2 // x = 7"]).sections("a"), [(1, 1, False), (3, 3, False)])
        self.assertEqual(Conditions(record, ["either a 2 mod x = 0"]).gaps("a"), [(0, 0), (2, 2)])

    def test_variables_that_are_not_in_the_record(self):
        self.assertEqual(Conditions(EXAMPLE, ["hold a y = 0"]).sections("a"), [(0, 2, False)])
        self.assertEqual(Conditions(EXAMPLE, ["hold a y = 1"]).sections("a"), [])

    def test_several_either_lines(self):
        record = one_process(1, 2, 3, 4)
        conditions = Conditions(record, ["either a x = 1", "either a x = 3", "either a x = 5"])
        self.assertEqual(conditions.gaps("a"), [(0, 0), (2, 2), (4, 4)])

    def test_a_process_without_a_line(self):
        conditions = Conditions(EXAMPLE, ["either a x = 1"])
        self.assertEqual(conditions.gaps("b"), [(0, 2)])
        self.assertEqual(conditions.gaps("a"), [(0, 0), (2, 2)])
        self.assertEqual(conditions.sections("b"), [])
        self.assertEqual(Conditions(EXAMPLE, ["hold a x = 1"]).sections("b"), [])
        self.assertEqual(Conditions(EXAMPLE, ["hold a x = 1"]).gaps("a"), [(0, 2)])

    def test_unknown_processes(self):
        conditions = Conditions(EXAMPLE, LOCK)
        for name in ("c", "", "x", "A"):
            self.assertEqual(raised(conditions.sections, name), ("UnknownProcess", name))
            self.assertEqual(raised(conditions.gaps, name), ("UnknownProcess", name))

    def test_random_records(self):
        source = random.Random(62)
        for repetition in range(150):
            rows = toggling_rows(source, source.randrange(1, 4), source.randrange(20))
            names = [name for name, events in rows]
            for rules in (some_lock(source, names), some_alternative(source, names)):
                conditions = Conditions(Record(rows), lines_of(rules))
                for name in names:
                    self.assertEqual(conditions.sections(name), slow_sections(rows, rules, name))
                    self.assertEqual(conditions.gaps(name), slow_gaps(rows, rules, name))


class BrokenTest(unittest.TestCase):

    def assert_broken(self, record, lines, expected):
        """The expected result for some cuts; all other cuts break nothing."""
        conditions = Conditions(record, lines)
        for cut in slow_cuts(rows_of(record)):
            self.assertEqual(conditions.broken(cut), expected.get(cut), cut)
            self.assertEqual(conditions.broken(list(cut)), expected.get(cut), cut)

    def test_order(self):
        self.assert_broken(EXAMPLE, ["order a 2 b 1"], {
            (0, 1): ("order", 0), (0, 2): ("order", 0), (1, 1): ("order", 0), (1, 2): ("order", 0),
        })
        self.assert_broken(EXAMPLE, ["order b 1 a 2"], {(2, 0): ("order", 0)})
        self.assert_broken(EXAMPLE, ["order a 1 a 2"], {})
        self.assert_broken(EXAMPLE, ["order a 2 a 1"], {(1, at): ("order", 0) for at in range(3)})

    def test_bound(self):
        self.assert_broken(TALK, ["bound a b 3"], {})
        self.assert_broken(TALK, ["bound b a 1", "bound b c 0", "bound c a 0"], {})
        counts = {(sent, received, other): sent - (received > 0) - (received > 2)
                  for sent, received, other in itertools.product(range(5), range(4), range(2))}
        for most in range(3):
            expected = {
                cut: ("bound", 0) for cut in slow_cuts(rows_of(TALK)) if counts[min(cut[0], 3), cut[1], cut[2]] > most
            }
            self.assert_broken(TALK, [f"bound a b {most}"], expected)
        self.assert_broken(TALK, ["bound b a 0"], {
            cut: ("bound", 0) for cut in slow_cuts(rows_of(TALK)) if cut[1] > 1 and cut[0] < 4
        })

    def test_the_end_with_messages_under_way(self):
        self.assertEqual(Conditions(TALK, ["bound b a 0", "bound a b 0"]).broken((4, 3, 1)), ("bound", 1))
        self.assertIsNone(Conditions(TALK, ["bound a b 1"]).broken((4, 3, 1)))

    def test_lock(self):
        self.assert_broken(EXAMPLE, LOCK, {(1, 1): ("lock", "a", "b")})
        self.assert_broken(EXAMPLE, ["hold a x = 1", "hold b y = 1"], {})
        self.assert_broken(EXAMPLE, ["hold a x = 1", "hold b y = 1", "write b y = 1"], {(1, 1): ("lock", "a", "b")})
        self.assert_broken(EXAMPLE, ["hold b y != 1", "write b y = 1", "hold a x = 1", "write a x = 1"], {
            (1, 0): ("lock", "a", "b"), (1, 2): ("lock", "a", "b"),
        })

    def test_the_first_two_processes(self):
        record = Record([(name, [("set", "x", 1)]) for name in "dcba"])
        hold = [f"hold {name} x = 1" for name in "abcd"]
        conditions = Conditions(record, hold + ["write b x = 1"])
        self.assertEqual(conditions.broken((1, 1, 1, 1)), ("lock", "d", "b"))
        self.assertEqual(conditions.broken((0, 1, 1, 1)), ("lock", "c", "b"))
        self.assertEqual(conditions.broken((0, 0, 1, 1)), ("lock", "b", "a"))
        self.assertIsNone(conditions.broken((1, 1, 0, 1)))
        conditions = Conditions(record, hold + ["write b x = 1", "write c x = 1"])
        self.assertEqual(conditions.broken((1, 1, 1, 1)), ("lock", "d", "c"))
        self.assertEqual(conditions.broken((1, 0, 1, 1)), ("lock", "d", "b"))
        self.assertEqual(Conditions(record, hold + ["write a x = 1"]).broken((1, 1, 1, 1)), ("lock", "d", "a"))

    def test_a_section_is_writing_also_in_its_other_states(self):
        record = Record([("a", [("set", "x", 1), ("set", "x", 2), ("set", "x", 3)]), ("b", [("set", "x", 1)])])
        conditions = Conditions(record, ["hold a x > 0", "write a x = 2", "hold b x = 1"])
        for number in (1, 2, 3):
            self.assertEqual(conditions.broken((number, 1)), ("lock", "a", "b"))
            self.assertIsNone(conditions.broken((number, 0)))

    def test_either(self):
        self.assert_broken(EXAMPLE, ["either a x = 0", "either b y = 0"], {(1, 1): ("either",)})
        self.assert_broken(EXAMPLE, ["either a x = 0"], {(1, at): ("either",) for at in range(3)})
        self.assert_broken(EXAMPLE, ["either a x = 0", "either a x = 1"], {})
        self.assert_broken(EXAMPLE, ["either a x = 1", "either b y = 1"], {
            cut: ("either",) for cut in itertools.product((0, 2), repeat=2)
        })
        # Processes without an either line do not count.
        self.assert_broken(EXAMPLE, ["either b y = 0"], {(at, 1): ("either",) for at in range(3)})

    def test_the_first_one_that_applies(self):
        lines = ["bound a b 5", *LOCK, "order b 2 a 1", "order b 1 a 1"]
        self.assertEqual(Conditions(EXAMPLE, lines).broken((1, 1)), ("order", 4))
        self.assertEqual(Conditions(EXAMPLE, lines).broken((1, 0)), ("order", 4))
        self.assertEqual(Conditions(EXAMPLE, lines[:4] + lines[5:]).broken((1, 1)), ("lock", "a", "b"))
        self.assertEqual(Conditions(EXAMPLE, ["either a x = 2", "order b 1 a 1"]).broken((1, 0)), ("order", 1))
        self.assertEqual(Conditions(EXAMPLE, ["either a x = 2", "order b 1 a 1"]).broken((1, 1)), ("either",))
        lines = ["order a 4 b 1", "bound a b 1", "either c x = 5"]
        self.assertEqual(Conditions(TALK, lines).broken((2, 0, 0)), ("bound", 1))
        self.assertEqual(Conditions(TALK, lines).broken((3, 1, 0)), ("order", 0))
        self.assertEqual(Conditions(TALK, lines[1:]).broken((3, 1, 0)), ("bound", 0))
        self.assertEqual(Conditions(TALK, lines).broken((1, 0, 0)), ("either",))
        self.assertIsNone(Conditions(TALK, lines).broken((1, 0, 1)))

    def test_things_that_are_no_cuts(self):
        conditions = Conditions(TALK, ["bound a b 1"])
        for thing in (
            None, True, 0, "", "000", (), [], (0,), (0, 0), (0, 0, 0, 0), [0, 0], (0, 1, 0), [0, 1, 0], (5, 0, 0), (0, 0, 2), (-1, 0, 0),
            (True, 0, 0), [0, 0, False], (0, 0, None), ((0, 0, 0),), [[0, 0, 0]], [[0], 0, 0], ("a", 1, 1), (0, 0, "0"), (4, 1, 0),
        ):
            with self.subTest(thing):
                self.assertEqual(raised(conditions.broken, thing), ("BadCut", frozen(thing)))
        with self.assertRaises(ValueError):
            conditions.broken(nested(50000))

    def test_every_cut_of_random_records(self):
        source = random.Random(63)
        seen = {}
        for repetition in range(400):
            rows = toggling_rows(source, source.randrange(1, 5), source.randrange(12))
            rules = some_rules(source, rows)
            conditions = Conditions(Record(rows), lines_of(rules))
            cuts = slow_cuts(rows)
            for cut in source.sample(cuts, min(len(cuts), 30)):
                expected = slow_broken(rows, rules, cut)
                self.assertEqual(conditions.broken(cut), expected)
                kind = expected and expected[0]
                seen[kind] = seen.get(kind, 0) + 1
        for kind in (None, "order", "bound", "lock", "either"):
            self.assertGreater(seen[kind], 50)

    def test_equal_arguments(self):
        one, other = Conditions(EXAMPLE, LOCK), Conditions(Record(rows_of(EXAMPLE)), tuple(LOCK))
        for cut in itertools.product(range(3), repeat=2):
            self.assertEqual(one.broken(cut), other.broken(cut))

    def test_large_conditions(self):
        rows = toggling_rows(random.Random(64), 8, 120)
        deep = " + ".join(["x * y - z"] * 30)
        lines = [f"either {name} {deep} > {number}" for name, events in rows for number in range(5)]
        conditions = Conditions(Record(rows), lines)
        self.assertEqual(conditions.broken((0,) * 8), ("either",))


if __name__ == "__main__":
    unittest.main()
