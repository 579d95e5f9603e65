"""[2], [3], [4], [40], [42], [43]: whether things are waits with reasons, or evidence."""

import random
import unittest

from rerunrein.conditions import Conditions
from rerunrein.records import Record, read_record
from rerunrein.steering import bad_cut, is_evidence, is_steering, required, steer
from tests.condition_oracle import busy_rows, busy_rules, lines_of
from tests.record_oracle import some_waits
from tests.steering_oracle import Look
from tests.test_records import OTHER_THINGS, nested

EXAMPLE = read_record(["process a", "set x 1", "set x 0", "process b", "set y 1", "set y 0"])
LOCK = Conditions(EXAMPLE, ["hold a x = 1", "write a x = 1", "hold b y = 1"])
EITHER = Conditions(EXAMPLE, ["either a x = 0", "either b y = 0"])
ALONE = Conditions(EXAMPLE, ["either a x = 0"])
ONE, OTHER = (("a", 2), ("b", 1)), (("b", 2), ("a", 1))
RIGHT = ("waits", (ONE,), ((1, 1),))
# Two sections each; under the waits a and b take turns.
TURNS = Conditions(
    Record([(name, [("set", "x", number % 2) for number in range(1, 5)]) for name in "ab"]),
    ["hold a x = 1", "hold b x = 1", "write a x = 1"],
)
IN_TURN = ("waits", ((("a", 2), ("b", 1)), (("b", 2), ("a", 3)), (("a", 4), ("b", 3))), ((1, 1), (3, 1), (3, 3)))


def deep_tuple():
    thing = ()
    for level in range(100000):
        thing = (thing,)
    return thing


def with_part(thing, path, part):
    """The thing with another part at the end of a path of indexes."""
    if not path:
        return part
    changed = list(thing)
    changed[path[0]] = with_part(thing[path[0]], path[1:], part)
    return tuple(changed)


def paths_in(thing):
    """The paths to all parts of nested tuples, the thing itself included."""
    found = [()]
    if isinstance(thing, tuple):
        found += [(at, *path) for at, part in enumerate(thing) for path in paths_in(part)]
    return found


def part_at(thing, path):
    for at in path:
        thing = thing[at]
    return thing


def of_wrong_kinds(thing):
    """The thing with one part of another kind: lists for tuples, bools for integers, and other objects."""
    found = []
    for path in paths_in(thing):
        part = part_at(thing, path)
        if isinstance(part, tuple):
            found += [with_part(thing, path, other) for other in (list(part), None, (part,), "", part + (part,), part + (None,))]
        elif isinstance(part, int):
            found += [with_part(thing, path, other) for other in (str(part), None, (part,), -1 - part, 10 ** 29)]
            found += [with_part(thing, path, bool(part))] if part in (0, 1) else []
        else:
            found += [with_part(thing, path, other) for other in ("", "nobody", None, (part,), [part], 1)]
    return found


class SteeringTest(unittest.TestCase):

    def assert_answers(self, conditions, right, wrong):
        for thing in right:
            self.assertIs(is_steering(conditions, thing), True, thing)
        for thing in wrong:
            self.assertIs(is_steering(conditions, thing), False, thing)

    def test_the_examples(self):
        self.assert_answers(LOCK, [RIGHT, ("waits", (OTHER,), ((1, 1),))], [("waits", (), ())])
        self.assert_answers(EITHER, [RIGHT, ("waits", (OTHER,), ((1, 1),))], [("waits", (), ())])
        self.assert_answers(Conditions(EXAMPLE, []), [("waits", (), ())], [RIGHT])
        self.assertIs(is_steering(thing=RIGHT, conditions=LOCK), True)
        self.assert_answers(ALONE, [], [("waits", (), ()), RIGHT, ("never", ("overlap", (("a", 1, 1),)))])

    def test_a_wait_too_many(self):
        more = (("a", 1), ("b", 2))
        for waits in ((ONE, more), (more, ONE)):
            for reason in ((1, 1), (0, 2), (0, 0), (1, 2)):
                self.assert_answers(LOCK, [], [("waits", waits, ((1, 1), reason)), ("waits", waits, (reason, (1, 1)))])
        self.assert_answers(LOCK, [], [("waits", (ONE, ONE), ((1, 1), (1, 1))), ("waits", (ONE, OTHER), ((1, 1), (1, 1)))])
        for wait in ((("a", 1), ("b", 1)), (("a", 1), ("b", 2)), (("b", 1), ("a", 1)), (("b", 1), ("a", 2)), (("b", 2), ("a", 2))):
            self.assert_answers(LOCK, [], [("waits", (wait,), ((1, 1),))])

    def test_in_turn(self):
        self.assert_answers(TURNS, [IN_TURN], [])
        word, waits, reasons = IN_TURN
        wrong = [(word, waits[:at] + waits[at + 1:], reasons[:at] + reasons[at + 1:]) for at in range(3)]
        wrong += [(word, waits, reasons[:2]), (word, waits[:2], reasons), (word, waits, ()), (word, (), reasons), (word, (), ())]
        wrong += [(word, waits + waits[:1], reasons + reasons[:1]), (word, waits[:1] + waits, reasons[:1] + reasons)]
        wrong += [(word, waits, reasons[1:] + reasons[:1]), (word, waits, reasons[::-1]), (word, waits[::-1], reasons)]
        wrong += [(word, tuple((other, one) for one, other in waits), reasons)]
        wrong += [(word, (waits[0][::-1],) + waits[1:], reasons), ("never", waits, reasons), ("wait", waits, reasons)]
        wrong += [(word, waits, ((1, 1), (3, 1), (3, 2))), (word, waits, ((0, 0), (3, 1), (3, 3))), (word, waits, ((1, 3), (3, 1), (3, 3)))]
        self.assert_answers(TURNS, [(word, waits[::-1], reasons[::-1]), (word, waits[1:] + waits[:1], reasons[1:] + reasons[:1])], wrong)

    def test_parts_of_wrong_kinds(self):
        for conditions, thing in ((LOCK, RIGHT), (TURNS, IN_TURN), (Conditions(EXAMPLE, []), ("waits", (), ()))):
            self.assertIs(is_steering(conditions, thing), True)
            self.assert_answers(conditions, [], of_wrong_kinds(thing))
            self.assert_answers(conditions, [], [(*thing, ()), thing[:2], thing[1:], (thing,), list(thing)])

    def test_any_objects(self):
        things = [*OTHER_THINGS, "waits", ("waits",), ("waits", None, None), ("waits", 0, 0), ("waits", "", ""), ("waits", (None,), (None,))]
        things += [nested(50000), deep_tuple(), (deep_tuple(),) * 3, ("waits", deep_tuple(), ((1, 1),)), ("waits", (ONE,), deep_tuple())]
        things += [("waits", (ONE,), (deep_tuple(),)), ("waits", (deep_tuple(),), ((1, 1),)), ("waits", ((ONE[0], deep_tuple()),), ((1, 1),))]
        for thing in things:
            for conditions in (LOCK, EITHER, Conditions(EXAMPLE, [])):
                self.assertFalse(is_steering(conditions, thing))
                self.assertIs(is_evidence(conditions, thing), False)

    def test_against_the_words(self):
        source = random.Random(101)
        answers = {True: 0, False: 0}
        for repetition in range(250):
            rows = busy_rows(source, source.randrange(2, 4), source.randrange(5, 11))
            rules = busy_rules(source, rows)
            look = Look(rows, rules)
            conditions = Conditions(Record(rows), lines_of(rules))
            result = steer(conditions)
            if result[0] == "never":
                waits = some_waits(source, rows, source.randrange(3))
            else:
                waits = result[1]
                if source.randrange(3):
                    waits = tuple(source.sample(waits + some_waits(source, rows, 2), min(len(waits), 2)))
            if not look.is_live(waits):
                self.assertIs(is_steering(conditions, ("waits", waits, ((0,) * len(rows),) * len(waits))), False)
                continue
            for turn in range(4):
                reasons = [source.choice(look.bad_cuts(waits[:at] + waits[at + 1:]) or [(0,) * len(rows)]) for at in range(len(waits))]
                if turn and reasons:
                    reasons[source.randrange(len(reasons))] = source.choice(list(look.broken))
                expected = look.is_steering(waits, tuple(reasons))
                self.assertIs(is_steering(conditions, ("waits", waits, tuple(reasons))), expected)
                answers[expected] += 1
        for count in answers.values():
            self.assertGreater(count, 50)


class EvidenceTest(unittest.TestCase):

    def assert_answers(self, conditions, right, wrong):
        for thing in right:
            self.assertIs(is_evidence(conditions, thing), True, thing)
        for thing in wrong:
            self.assertIs(is_evidence(conditions, thing), False, thing)

    def test_the_example(self):
        thing = ("overlap", (("a", 1, 1),))
        self.assert_answers(ALONE, [thing], [("never", thing), RIGHT, ("overlap", ())])
        self.assertIs(is_evidence(thing=thing, conditions=ALONE), True)
        record = read_record(["process a", "send b 1", "process b"])
        self.assert_answers(Conditions(record, ["bound a b 0"]), [("end", 0)], [])

    def test_ends(self):
        record = read_record(["process a", "send b 1", "send b 1", "send b 1", "process b", "receive x 1 from a"])
        for most in range(4):
            conditions = Conditions(record, ["order a 1 b 1", f"bound a b {most}", "bound b a 0"])
            wrong = [("end", line) for line in (0, 2, 3, -1, -2, True, None, "1", (1,), [1], 10 ** 29)]
            wrong += [["end", 1], ("end",), ("end", 1, 1), ("ends", 1), ("End", 1), (1, "end"), ("end", 1 - 3), ("ring", 1), ("overlap", 1)]
            right = [("end", 1)]
            self.assert_answers(conditions, right if most < 2 else [], wrong + (right if most >= 2 else []))
        self.assert_answers(Conditions(record, ["bound a b 0"]), [("end", 0)], [("end", False), ("end", 1)])

    def test_rings(self):
        conditions = Conditions(EXAMPLE, ["order a 2 b 1", "order b 2 a 1", "order a 1 b 2", "order a 2 a 1", "order b 1 b 2"])
        there, back, late, alone, idle = required(conditions)
        right = [(there, back), (back, there), (alone,), (alone, alone), (there, back, there, back), (there, back, alone), (late, back)]
        right += [(there, idle, back)]
        wrong = [(), (there,), (back,), (there, there), (late,), (idle,), (back, idle), (there, back[:2]), (there, back, late)]
        wrong += [(there, back[::-1]), (there, (5, *back[1:])), (there, (0, *back[1:])), (there, (back[0], back[2], back[1]))]
        self.assert_answers(conditions, [("ring", steps) for steps in right], [("ring", steps) for steps in wrong])
        self.assert_answers(conditions, [], of_wrong_kinds(("ring", (there, back))) + of_wrong_kinds(("ring", (alone,))))

    def test_rings_go_along_the_record(self):
        record = read_record([
            "process a", "send b 1", "checkpoint", "process b", "checkpoint", "receive x 1 from a", "process c", "checkpoint",
        ])
        conditions = Conditions(record, ["order c 1 a 1", "order b 2 c 1", "order b 1 c 1", "bound a b 0"])
        into, out, early, bound = required(conditions)
        self.assertEqual(bound, (3, ("b", 2), ("a", 1)))
        self.assert_answers(
            conditions, [("ring", (into, out)), ("ring", (bound,)), ("ring", (out, into, bound))],
            [("ring", (into, early)), ("ring", (out, bound))],
        )

    def test_sections(self):
        record = Record([(name, [("set", "x", 1), ("set", "x", 0), ("set", "x", 1), ("set", "x", 0)]) for name in "abc"])
        hold = [f"hold {name} x = 1" for name in "abc"]
        # Each section of a overlaps the one of b.
        orders = ["order a 1 b 2", "order b 1 a 2", "order a 3 b 4", "order b 3 a 4"]
        conditions = Conditions(record, hold + ["write a x = 1"] + orders)
        one, two, three, four = ("a", 1, 1), ("a", 3, 3), ("b", 1, 1), ("b", 3, 3)
        right = [(one, three), (two, four), (one, three, one, three), (two, four, two, four), (one, three, one, three, one, three)]
        wrong = [(three, one), (four, two), (one,), (), (one, one), (one, three, one), (one, four), (two, three), (one, two), (two, one)]
        wrong += [(one, two, four, three), (one, three, three), (one, one, three), (one, ("c", 1, 1)), (("c", 1, 1), one)]
        wrong += [(one, ("b", 1, 2)), (one, ("b", 0, 1)), (one, ("d", 1, 1)), (one, ("b", 1, 1, False)), (one, ("b", 1))]
        self.assert_answers(conditions, [("sections", chain) for chain in right], [("sections", chain) for chain in wrong])
        self.assert_answers(conditions, [], of_wrong_kinds(("sections", (one, three))))
        writing = Conditions(record, hold + ["write b x = 1"] + orders)
        self.assert_answers(writing, [("sections", (three, one))], [("sections", (one, three))])
        reading = Conditions(record, hold + orders)
        self.assert_answers(reading, [], [("sections", (one, three)), ("sections", (three, one))])

    def test_sections_at_the_ends(self):
        record = read_record(["process a", "set x 1", "set x 0", "process b", "set x 1", "set x 0"])
        conditions = Conditions(record, ["hold a x = 0", "hold b x = 0", "write a 0 = 0", "write b 0 = 0"])
        first, last, early, late = ("a", 0, 0), ("a", 2, 2), ("b", 0, 0), ("b", 2, 2)
        right = [(first, early), (early, first), (last, late), (late, last)]
        wrong = [(first, late), (early, last), (last, early), (first, last), (last, first), (first, early, last, late)]
        self.assert_answers(conditions, [("sections", chain) for chain in right], [("sections", chain) for chain in wrong])
        # One section with all states is forced ahead of all others, and they are ahead of it.
        conditions = Conditions(record, ["hold a x = 1", "write a x = 1", "hold b 0 = 0"])
        self.assert_answers(conditions, [("sections", (("a", 1, 1), ("b", 0, 2)))], [("sections", (("b", 0, 2), ("a", 1, 1)))])

    def test_overlaps(self):
        record = Record([(name, [("set", "x", 1), ("set", "x", 0), ("set", "x", 1), ("set", "x", 0)]) for name in "cab"])
        orders = ["order a 1 b 2", "order b 1 a 2", "order a 3 b 4", "order b 3 a 4"]
        conditions = Conditions(record, ["either b x = 0", "either a x = 0"] + orders)
        one, two, three, four = ("a", 1, 1), ("a", 3, 3), ("b", 1, 1), ("b", 3, 3)
        right = [(one, three), (two, four)]
        wrong = [(three, one), (one,), (three,), (), (one, four), (two, three), (one, two), (one, three, one), (one, one), (one, three, two)]
        wrong += [(("c", 0, 4), one, three), (one, three, ("c", 0, 4)), (("a", 0, 1), three), (("a", 1, 2), three), (("a", 0, 0), three)]
        self.assert_answers(conditions, [("overlap", gaps) for gaps in right], [("overlap", gaps) for gaps in wrong])
        self.assert_answers(conditions, [], of_wrong_kinds(("overlap", (one, three))))
        free = Conditions(record, ["either b x = 0", "either a x = 0"])
        self.assert_answers(free, [], [("overlap", gaps) for gaps in right + wrong])

    def test_overlaps_at_the_ends(self):
        record = read_record(["process a", "set x 1", "set x 0", "process b", "set x 1", "set x 0"])
        conditions = Conditions(record, ["either a x = 1", "either b x = 1"])
        first, last, early, late = ("a", 0, 0), ("a", 2, 2), ("b", 0, 0), ("b", 2, 2)
        self.assert_answers(
            conditions, [("overlap", (first, early)), ("overlap", (last, late))], [("overlap", (first, late)), ("overlap", (last, early))],
        )

    def test_conditions_without_such_lines(self):
        for conditions in (LOCK, Conditions(EXAMPLE, []), Conditions(EXAMPLE, ["order a 1 b 1"])):
            self.assert_answers(conditions, [], [
                ("overlap", ()), ("overlap", (("a", 0, 2),)), ("overlap", (("a", 0, 2), ("b", 0, 2))), ("ring", ()), ("sections", ()),
                ("sections", (("a", 1, 1), ("b", 1, 1))), ("end", 0), ("ring", ((0, ("a", 1), ("b", 1)),)),
            ])

    def test_an_order_that_goes_round(self):
        # In the required order b 2 is ahead of itself and so of all that is behind it.
        record = read_record(["process a", "set x 1", "set x 0", "process b", "set x 1", "set x 0", "set x 1", "set x 0"])
        lines = ["hold a x = 1", "write a x = 1", "hold b x = 1", "order b 3 b 2"]
        one, early, late = ("a", 1, 1), ("b", 1, 1), ("b", 3, 3)
        conditions = Conditions(record, lines)
        self.assertEqual(steer(conditions)[1][0], "ring")
        self.assert_answers(conditions, [("ring", ((3, ("b", 3), ("b", 2)),))], [("sections", (one, late)), ("sections", (early, late))])
        writing = Conditions(record, lines + ["write b x = 1"])
        # The late section is forced ahead of the early one, too.
        self.assert_answers(writing, [("sections", (early, late)), ("sections", (late, early))], [("sections", (late, one))])
        around = Conditions(record, lines + ["order a 1 b 2", "order b 3 a 2"])
        self.assert_answers(around, [("sections", (one, late)), ("sections", (one, early, late)), ("sections", (one, early))], [])

    def test_against_the_words(self):
        source = random.Random(102)
        answers = {}
        for repetition in range(600):
            rows = busy_rows(source, source.randrange(2, 4), source.randrange(5, 12))
            rules = busy_rules(source, rows)
            if source.randrange(2):
                rules += [("order", *one, *other) for one, other in some_waits(source, rows, 3)]
            look = Look(rows, rules)
            conditions = Conditions(Record(rows), lines_of(rules))
            for kind, parts in (("sections", list(look.sections)), ("overlap", sum(look.gaps.values(), [])), ("ring", look.pairs)):
                for turn in range(12 if parts else 0):
                    shown = tuple(source.choice(parts) for part in range(source.randrange(1, 4)))
                    if kind == "overlap" and all(look.gaps.values()):
                        shown = tuple(source.choice(look.gaps[name]) for name in look.choosers)
                    expected = look.is_evidence(kind, shown)
                    self.assertIs(is_evidence(conditions, (kind, shown)), expected)
                    answers[kind, expected] = answers.get((kind, expected), 0) + 1
            for line in range(-1, len(rules) + 1):
                expected = look.is_evidence("end", line)
                self.assertIs(is_evidence(conditions, ("end", line)), expected)
                answers["end", expected] = answers.get(("end", expected), 0) + 1
        for kind in ("sections", "overlap", "ring", "end"):
            for expected in (True, False):
                self.assertGreater(answers[kind, expected], 10, (kind, expected))

    def test_what_was_returned_may_be_passed(self):
        self.assertIs(is_steering(LOCK, steer(LOCK)), True)
        self.assertIs(is_evidence(ALONE, steer(ALONE)[1]), True)
        self.assertIsNone(bad_cut(LOCK, steer(LOCK)[1]))


if __name__ == "__main__":
    unittest.main()
