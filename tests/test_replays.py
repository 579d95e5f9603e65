"""[3], [28], [44], [45]: executing the events of a record under waits."""

import random
import unittest

from rerunrein.orders import Order
from rerunrein.records import Record, read_record
from rerunrein.replays import Replay, replay
from tests.raised import raised
from tests.record_oracle import all_events, closure, slow_cuts, slow_replays, some_rows, some_waits
from tests.test_records import nested

EXAMPLE = read_record(["process a", "send b 5", "set x 1", "process b", "receive x 5 from a"])
FREE = read_record(["process b", "set x 1", "checkpoint", "process a", "input y -7", "process c"])
WAIT = (("b", 1), ("a", 2))


def live_waits(source, rows, count):
    """Waits that do not go round."""
    waits = some_waits(source, rows, count)
    ahead = closure(rows, waits)
    return () if any(event in ahead[event] for event in ahead) else waits


class ReplayTest(unittest.TestCase):

    def test_the_example(self):
        running = Replay(EXAMPLE)
        self.assertEqual([running.reached(), running.ready()], [(0, 0), ["a"]])
        self.assertEqual(running.step("a"), ("send", "b", 5))
        self.assertEqual([running.reached(), running.ready()], [(1, 0), ["a", "b"]])
        self.assertEqual(running.step("b"), ("receive", "a", "x", 5))
        self.assertEqual([running.reached(), running.ready()], [(1, 1), ["a"]])
        self.assertEqual(running.step("a"), ("set", "x", 1))
        self.assertEqual([running.reached(), running.ready()], [(2, 1), []])
        self.assertIs(type(running.reached()), tuple)

    def test_a_wait(self):
        for waits in ([WAIT], (WAIT, WAIT), [[["b", 1], ["a", 2]]], [list(WAIT), WAIT]):
            running = Replay(EXAMPLE, waits)
            running.step("a")
            self.assertEqual(running.ready(), ["b"])
            self.assertEqual(raised(running.step, "a"), ("NotReady", "a"))
            running.step(name="b")
            self.assertEqual(running.ready(), ["a"])
            self.assertEqual(running.step("a"), ("set", "x", 1))
        self.assertEqual(Replay(waits=[WAIT], record=EXAMPLE).ready(), ["a"])

    def test_errors(self):
        running = Replay(EXAMPLE, [WAIT])
        for name in ("c", "", "A", "x"):
            self.assertEqual(raised(running.step, name), ("UnknownProcess", name))
        self.assertEqual(raised(running.step, "b"), ("NotReady", "b"))
        self.assertEqual(running.reached(), (0, 0))
        for name in ("a", "b", "a"):
            running.step(name)
        for name in ("a", "b"):
            self.assertEqual(raised(running.step, name), ("NotReady", name))
        self.assertEqual([running.reached(), running.ready()], [(2, 1), []])

    def test_errors_of_waits(self):
        for waits in ([None], [WAIT, 5], [(("a", 1), ("a", 2))], [WAIT, WAIT, (("a", 1), ("b", 2))], [WAIT, nested(9)]):
            expected = ("BadWait", len(waits) - 1)
            self.assertEqual(raised(Replay, EXAMPLE, waits), expected)
            self.assertEqual(raised(replay, EXAMPLE, waits, [0]), expected)
        ring = [(("b", 1), ("a", 1))]
        self.assertEqual(raised(Replay, EXAMPLE, ring), ("NotLive", tuple(ring)))
        self.assertEqual(raised(replay, EXAMPLE, ring, []), ("NotLive", tuple(ring)))

    def test_copies(self):
        running = Replay(EXAMPLE, [WAIT])
        running.step("a")
        twin = running.copy()
        self.assertEqual([twin.reached(), twin.ready()], [(1, 0), ["b"]])
        twin.step("b")
        self.assertEqual([running.reached(), running.ready()], [(1, 0), ["b"]])
        running.step("b")
        running.step("a")
        self.assertEqual([twin.reached(), twin.ready()], [(1, 1), ["a"]])
        self.assertEqual(twin.step("a"), ("set", "x", 1))
        self.assertEqual(raised(Replay(EXAMPLE, [WAIT]).copy().step, "b"), ("NotReady", "b"))

    def test_identity(self):
        running = Replay(EXAMPLE)
        self.assertEqual(running, running)
        self.assertNotEqual(running, running.copy())
        self.assertNotEqual(running, Replay(EXAMPLE))

    def test_changes_of_what_was_passed_or_returned(self):
        event = ["b", 1]
        waits = [[event, ["a", 2]]]
        running = Replay(EXAMPLE, waits)
        self.assertEqual(waits, [[["b", 1], ["a", 2]]])
        event[0] = "c"
        waits.append(5)
        running.ready().clear()
        running.step("a")
        self.assertEqual(running.ready(), ["b"])
        self.assertEqual(running.copy().ready(), ["b"])

    def test_no_events(self):
        running = Replay(Record([("a", []), ("b", [])]), [])
        self.assertEqual([running.reached(), running.ready()], [(0, 0), []])
        self.assertEqual(raised(running.step, "a"), ("NotReady", "a"))
        self.assertEqual(replay(Record([("a", [])]), (), [0, 5]), [(0,)])

    def test_each_step_under_waits(self):
        source = random.Random(111)
        for repetition in range(150):
            rows = some_rows(source, source.randrange(1, 5), source.randrange(20))
            waits = live_waits(source, rows, source.randrange(5))
            ahead = closure(rows, waits)
            names = [name for name, events in rows]
            running = Replay(Record(rows), waits)
            done = set()
            for event in list(ahead):
                numbers = {name: len([one for one in done if one[0] == name]) for name in names}
                self.assertEqual(running.reached(), tuple(numbers.values()))
                nexts = [(name, numbers[name] + 1) for name in names]
                ready = [event[0] for event in nexts if event in ahead and ahead[event] <= done]
                self.assertEqual(running.ready(), ready)
                self.assertTrue(ready)
                for name in names:
                    if name not in ready:
                        self.assertEqual(raised(running.step, name), ("NotReady", name))
                name = source.choice(ready)
                number = numbers[name] + 1
                self.assertEqual(running.step(name), dict(rows)[name][number - 1])
                done.add((name, number))
            self.assertEqual([running.ready(), len(done)], [[], len(all_events(rows))])

    def test_all_replays(self):
        source = random.Random(112)
        for repetition in range(100):
            rows = some_rows(source, source.randrange(1, 4), source.randrange(8))
            waits = live_waits(source, rows, source.randrange(3))
            found, cuts = set(), set()
            open_ones = [((), Replay(Record(rows), waits))]
            while open_ones:
                events, running = open_ones.pop()
                cuts.add(running.reached())
                for name in running.ready():
                    later = running.copy()
                    later.step(name)
                    number = later.reached()[[one for one, done in rows].index(name)]
                    open_ones.append(((*events, (name, number)), later))
                if not running.ready():
                    found.add(events)
            self.assertEqual(found, set(slow_replays(rows, waits)))
            self.assertEqual(cuts, set(slow_cuts(rows, waits)))


class ChoicesTest(unittest.TestCase):

    def test_the_example(self):
        self.assertEqual(replay(EXAMPLE, [], [0, 0, 0]), [(0, 0), (1, 0), (2, 0), (2, 1)])
        self.assertEqual(replay(EXAMPLE, (), (0, 1, 0)), [(0, 0), (1, 0), (1, 1), (2, 1)])
        self.assertEqual(replay(choices=[0, 0, 0], waits=[WAIT], record=EXAMPLE), [(0, 0), (1, 0), (1, 1), (2, 1)])
        self.assertIs(type(replay(EXAMPLE, [], [])), list)

    def test_choices_beyond_the_number_of_ready_processes(self):
        self.assertEqual(replay(EXAMPLE, [], [7, 3, 10 ** 29]), [(0, 0), (1, 0), (1, 1), (2, 1)])
        self.assertEqual(replay(FREE, [], [2, 1, 5]), [(0, 0, 0), (1, 0, 0), (1, 1, 0), (2, 1, 0)])

    def test_choices_that_run_out_and_are_left_over(self):
        self.assertEqual(replay(EXAMPLE, [], []), [(0, 0)])
        self.assertEqual(replay(EXAMPLE, [], [1]), [(0, 0), (1, 0)])
        self.assertEqual(replay(EXAMPLE, [], [0] * 400), [(0, 0), (1, 0), (2, 0), (2, 1)])

    def test_drawn_choices(self):
        source = random.Random(113)
        for repetition in range(150):
            rows = some_rows(source, source.randrange(1, 5), source.randrange(20))
            waits = live_waits(source, rows, source.randrange(4))
            choices = [source.randrange(12) for step in range(source.randrange(25))]
            cuts = replay(Record(rows), waits, choices)
            order = Order(Record(rows), waits)
            self.assertEqual(len(cuts), 1 + min(len(choices), len(all_events(rows))))
            running = Replay(Record(rows), waits)
            for cut, later, choice in zip(cuts, cuts[1:], choices):
                ready = running.ready()
                running.step(ready[choice % len(ready)])
                self.assertEqual([sum(later) - sum(cut), running.reached()], [1, later])
                self.assertTrue(order.is_cut(later))

    def test_nothing_is_changed(self):
        waits, choices = [list(WAIT)], [1, 2]
        replay(EXAMPLE, waits, choices).clear()
        self.assertEqual([waits, choices], [[list(WAIT)], [1, 2]])


if __name__ == "__main__":
    unittest.main()
