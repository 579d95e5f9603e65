"""[3], [46], [47]: programs that can do nothing but replays of a record under waits."""

import random
import unittest

from rerunrein.conditions import Conditions
from rerunrein.machine import Machine
from rerunrein.orders import Order
from rerunrein.programs import parse_program
from rerunrein.records import Record, read_record
from rerunrein.scripts import steered_lines
from rerunrein.steering import steer
from tests.condition_oracle import busy_rows, busy_rules, lines_of
from tests.oracle import RESERVED
from tests.raised import raised
from tests.record_oracle import some_rows
from tests.test_records import nested
from tests.test_replays import live_waits

ALL = read_record([
    "process a", "set x 5", "input y -7", "send b -3", "checkpoint", "take x 0 from b",
    "process b", "receive z -3 from a", "send a 0", "set zz " + "9" * 30,
])
FREE = read_record(["process p", "checkpoint", "checkpoint", "checkpoint", "process q", "checkpoint", "checkpoint", "checkpoint"])


def words_of_the_row(count):
    """The first words of a, b, .., z, aa, .., zz, aaa, .."""
    letters = "abcdefghijklmnopqrstuvwxyz"
    words = list(letters) + [one + other for one in letters for other in letters]
    return words[:count]


class LinesTest(unittest.TestCase):

    def test_no_waits(self):
        expected = [
            "process a", "set x 5", "set y -7", "send b -3", "checkpoint", "receive x b",
            "process b", "receive z a", "send a 0", "set zz " + "9" * 30,
        ]
        self.assertEqual(steered_lines(ALL), expected)
        self.assertEqual(steered_lines(ALL, ()), expected)
        self.assertEqual(steered_lines(record=ALL, waits=[]), expected)
        self.assertIs(type(steered_lines(ALL)), list)
        self.assertEqual(steered_lines(Record([("c", []), ("a", [])])), ["process c", "process a"])

    def test_a_wait(self):
        # a and b are processes; z and zz are variables.
        for waits in ([(("a", 2), ("b", 2))], ((["a", 2], ("b", 2)),), [[["a", 2], ["b", 2]]]):
            self.assertEqual(steered_lines(ALL, waits), [
                "process a", "set x 5", "set y -7", "send c 0", "send b -3", "checkpoint", "receive x b",
                "process b", "receive z a", "receive zzz c", "send a 0", "set zz " + "9" * 30,
                "process c", "receive zzz a", "send b zzz",
            ])

    def test_several_waits_of_an_event(self):
        record = read_record(["process a", "checkpoint", "checkpoint", "process b", "checkpoint", "process c", "checkpoint"])
        waits = [(("a", 1), ("b", 1)), (("a", 1), ("c", 1)), (("c", 1), ("a", 2)), (("b", 1), ("a", 2)), (("a", 1), ("b", 1))]
        self.assertEqual(steered_lines(record, waits), [
            "process a", "checkpoint", "send d 0", "send e 0", "send h 0", "receive z f", "receive z g", "checkpoint",
            "process b", "receive z d", "receive z h", "checkpoint", "send g 0",
            "process c", "receive z e", "checkpoint", "send f 0",
            "process d", "receive z a", "send b z",
            "process e", "receive z a", "send c z",
            "process f", "receive z c", "send a z",
            "process g", "receive z b", "send a z",
            "process h", "receive z a", "send b z",
        ])

    def test_a_wait_twice(self):
        wait = (("p", 2), ("q", 1))
        self.assertEqual(steered_lines(FREE, [wait, wait]), [
            "process p", "checkpoint", "checkpoint", "send a 0", "send b 0", "checkpoint",
            "process q", "receive z a", "receive z b", "checkpoint", "checkpoint", "checkpoint",
            "process a", "receive z p", "send q z", "process b", "receive z p", "send q z",
        ])

    def test_names_of_helpers(self):
        record = Record([(name, [("set", "zzz", 1)]) for name in ("c", "if", "aa", "z") if name not in RESERVED] + [("b", [])])
        waits = [(("c", 1), ("aa", 1))] * 60
        names = [line[8:] for line in steered_lines(record, waits) if line.startswith("process ")]
        expected = [word for word in words_of_the_row(300) if word not in RESERVED and word not in ("c", "aa", "z", "b")][:60]
        self.assertEqual(names, ["c", "aa", "z", "b"] + expected)
        self.assertEqual(expected[22:26], ["y", "ab", "ac", "ad"])

    def test_reserved_words_are_no_helpers(self):
        waits = [(("p", 1), ("q", 1))] * 420
        names = [line[8:] for line in steered_lines(FREE, waits) if line.startswith("process ")]
        self.assertEqual(names[2:], [word for word in words_of_the_row(600) if word not in RESERVED and word not in "pq"][:420])
        for word in ("if", "or"):
            self.assertNotIn(word, names)
        self.assertIn("ie", names)
        self.assertIn("og", names)

    def test_the_variable_of_helpers(self):
        for used, expected in (
            ((), "z"), (("z",), "zz"), (("zz",), "z"), (("z", "zz", "zzz"), "zzzz"), (("z", "zzz"), "zz"), (("x", "y"), "z"),
        ):
            rows = [("p", [("set", "x", 1)]), ("q", [("set", variable, 1) for variable in used] + [("checkpoint",)])]
            lines = steered_lines(Record(rows), [(("p", 1), ("q", 1))])
            self.assertEqual(lines[-3:], ["process a", f"receive {expected} p", f"send q {expected}"])
        # A process may be called z.
        record = read_record(["process z", "checkpoint", "process zz", "checkpoint"])
        self.assertEqual(steered_lines(record, [(("z", 1), ("zz", 1))]), [
            "process z", "checkpoint", "send a 0", "process zz", "receive z a", "checkpoint", "process a", "receive z z", "send zz z",
        ])

    def test_variables_of_all_processes_count(self):
        record = read_record(["process p", "send q 1", "process q", "take z 1 from p", "process r", "input zz 2"])
        self.assertEqual(steered_lines(record, [(("r", 1), ("p", 1))])[-1], "send p zzz")

    def test_errors(self):
        wait = (("p", 1), ("q", 1))
        for waits in ([None], [wait, 5], [wait, (("p", 1), ("p", 2))], [(("p", 4), ("q", 1))], [nested(9)], [(("p", True), ("q", 1))]):
            self.assertEqual(raised(steered_lines, FREE, waits), ("BadWait", len(waits) - 1))
        ring = [wait, (("q", 1), ("p", 1))]
        self.assertEqual(raised(steered_lines, FREE, ring), raised(Order, FREE, ring))
        self.assertEqual(raised(steered_lines, FREE, ring)[0], "NotLive")

    def test_nothing_is_changed(self):
        waits = [[["p", 1], ["q", 1]]]
        lines = steered_lines(FREE, waits)
        self.assertEqual(waits, [[["p", 1], ["q", 1]]])
        lines.clear()
        self.assertEqual(len(steered_lines(FREE, waits)), 13)


class RunsTest(unittest.TestCase):

    def assert_replays(self, source, record, waits, conditions=None):
        """Runs the program by drawn choices and looks at the recorded events at every moment."""
        program = parse_program(steered_lines(record, waits))
        helpers = program.names()[len(record.names()):]
        self.assertEqual(program.names()[:len(record.names())], record.names())
        self.assertEqual(len(helpers), len(waits))
        order = Order(record, waits)
        machine = Machine(program, [])
        executed = {name: [] for name in record.names()}
        while machine.ready():
            name = source.choice(machine.ready())
            self.assertLessEqual(len(machine.senders(name)), 1)
            event = machine.step(name)
            if name in executed and event[1:2] not in [(helper,) for helper in helpers]:
                executed[name].append(event)
            cut = tuple(len(executed[name]) for name in record.names())
            self.assertTrue(order.is_cut(cut))
            if conditions is not None:
                self.assertIsNone(conditions.broken(cut))
        for name in program.names():
            self.assertEqual(machine.status(name), "ended")
        for name in record.names():
            self.assertEqual(executed[name], [
                ("set", *event[1:]) if event[0] == "input" else ("receive", *event[1:]) if event[0] == "take" else event
                for event in record.events(name)
            ])

    def test_drawn_records_and_waits(self):
        source = random.Random(121)
        for repetition in range(120):
            rows = some_rows(source, source.randrange(1, 6), source.randrange(30))
            waits = live_waits(source, rows, source.randrange(6))
            for turn in range(3):
                self.assert_replays(source, Record(rows), waits + waits[:1])

    def test_under_the_waits_of_steer(self):
        source = random.Random(122)
        found = 0
        for repetition in range(80):
            rows = busy_rows(source, source.randrange(2, 5), source.randrange(6, 20))
            conditions = Conditions(Record(rows), lines_of(busy_rules(source, rows)))
            result = steer(conditions)
            if result[0] == "waits" and len(result[1]) < 36:
                self.assert_replays(source, Record(rows), result[1], conditions)
                found += len(result[1])
        self.assertGreater(found, 40)

    def test_names_that_helpers_avoid(self):
        source = random.Random(123)
        record = read_record([
            "process b", "set z 1", "send a 1", "process a", "take zz 1 from b", "process c", "set zzzz -1",
        ])
        for turn in range(10):
            self.assert_replays(source, record, [(("c", 1), ("b", 2)), (("a", 1), ("c", 1))][turn % 2:][:1])
            self.assert_replays(source, record, [(("c", 1), ("b", 2)), (("b", 1), ("c", 1))])


if __name__ == "__main__":
    unittest.main()
