"""[3], [4], [33] to [35]: recovery lines, useless checkpoints and zigzags."""

import itertools
import random
import unittest

from rerunrein.checkpoints import is_zigzag, recovery_line, useless_checkpoints, zigzag
from rerunrein.records import Record, read_record
from tests.raised import raised
from tests.record_oracle import slow_cuts, slow_messages, some_rows
from tests.test_records import OTHER_THINGS, frozen, nested

RECOVERY = read_record([
    "process a", "checkpoint", "send b 1", "checkpoint", "process b", "receive x 1 from a", "checkpoint",
])
ZIGZAG = read_record([
    "process p", "receive x 1 from q", "checkpoint", "send q 2", "process q", "send p 1", "receive y 2 from p",
])
# The only way back to p goes through the send of q that is ahead of its receive.
LONG = read_record([
    "process p", "receive x 5 from r", "checkpoint", "send q 1",
    "process q", "checkpoint", "send r 3", "receive x 1 from p", "checkpoint", "send r 4",
    "process r", "receive x 3 from q", "checkpoint", "checkpoint", "send p 5", "receive y 4 from q",
])


def rows_of(record):
    return [(name, record.events(name)) for name in record.names()]


def slow_recovery_line(rows, cut, failed):
    """The greatest of all cuts of the kind of [33]; fails if there is no greatest one."""
    found = []
    for line in slow_cuts(rows):
        kept = [
            last <= most and (last == 0 or events[last - 1] == ("checkpoint",) or (last == most and name not in failed))
            for (name, events), last, most in zip(rows, line, cut)
        ]
        if all(kept):
            found.append(line)
    greatest = tuple(map(max, zip(*found)))
    assert greatest in found
    return greatest


def slow_useless(rows):
    """The checkpoint events of no global checkpoint, by a look at all cuts."""
    useful = set()
    for cut in slow_cuts(rows):
        saved = [
            last in (0, len(events)) or events[last - 1] == ("checkpoint",) for (name, events), last in zip(rows, cut)
        ]
        if all(saved):
            useful.update((name, last) for (name, events), last in zip(rows, cut))
    return [event for event in checkpoints_in(rows) if event not in useful]


def checkpoints_in(rows):
    return [(name, number) for name, events in rows for number, event in enumerate(events, 1) if event == ("checkpoint",)]


def slow_is_zigzag(rows, checkpoint, thing):
    """The words of [35] on a tuple of events."""
    receipts = dict(slow_messages(rows))

    def interval(event):
        return len([one for one in checkpoints_in(rows) if one[0] == event[0] and one[1] < event[1]])

    if len(thing) < 2 or not all(event in receipts for event in thing):
        return False
    if thing[0][0] != checkpoint[0] or thing[0][1] <= checkpoint[1]:
        return False
    for one, other in zip(thing, thing[1:]):
        if receipts[one][0] != other[0] or interval(other) < interval(receipts[one]):
            return False
    return receipts[thing[-1]][0] == checkpoint[0] and receipts[thing[-1]][1] < checkpoint[1]


def chatting_rows(random, processes, count):
    """The rows of a run that has nothing but messages and checkpoints."""
    names = random.sample(["p", "q", "r", "s"], processes)
    rows = {name: [] for name in names}
    channels = {}
    for repetition in range(count):
        name = random.choice(names)
        filled = [other for other in names if channels.get((other, name))]
        choice = random.randrange(10)
        if choice < 2 and rows[name][-1:] != [("checkpoint",)]:
            rows[name].append(("checkpoint",))
        elif choice < 3 or not filled:
            other = random.choice([one for one in names if one != name])
            rows[name].append(("send", other, 1))
            channels[name, other] = channels.get((name, other), 0) + 1
        else:
            other = random.choice(filled)
            rows[name].append((random.choice(("receive", "take")), other, "x", 1))
            channels[other, name] -= 1
    return [(name, tuple(events)) for name, events in rows.items()]


class RecoveryTest(unittest.TestCase):

    def test_the_example(self):
        self.assertEqual(recovery_line(RECOVERY, (2, 2), ["a"]), (1, 0))
        self.assertEqual(recovery_line(RECOVERY, [2, 2], ("a",)), (1, 0))
        self.assertEqual(recovery_line(failed=["a"], cut=(2, 2), record=RECOVERY), (1, 0))
        self.assertIs(type(recovery_line(RECOVERY, [2, 2], ["a"])), tuple)

    def test_others(self):
        self.assertEqual(recovery_line(RECOVERY, (3, 2), ["a"]), (3, 2))
        self.assertEqual(recovery_line(RECOVERY, (3, 1), ["b"]), (3, 0))
        self.assertEqual(recovery_line(RECOVERY, (2, 1), ["b"]), (2, 0))
        self.assertEqual(recovery_line(RECOVERY, (2, 1), ["a"]), (1, 0))
        self.assertEqual(recovery_line(RECOVERY, (2, 1), ["a", "b"]), (1, 0))
        self.assertEqual(recovery_line(RECOVERY, (0, 0), ["a", "b"]), (0, 0))
        self.assertEqual(recovery_line(RECOVERY, (1, 0), ["a"]), (1, 0))

    def test_none_failed(self):
        for record in (RECOVERY, ZIGZAG, LONG):
            for cut in slow_cuts(rows_of(record)):
                self.assertEqual(recovery_line(record, cut, []), cut)
                self.assertEqual(recovery_line(record, list(cut), ()), cut)

    def test_a_name_twice_and_any_order(self):
        for cut in slow_cuts(rows_of(LONG)):
            expected = slow_recovery_line(rows_of(LONG), cut, ("q", "r"))
            for failed in (["q", "r"], ("r", "q"), ["r", "q", "r", "r"]):
                self.assertEqual(recovery_line(LONG, cut, failed), expected)

    def test_back_to_the_beginning(self):
        # Each process has sent what the other one received: none of them can stop.
        record = read_record([
            "process a", "send b 1", "checkpoint", "receive x 2 from b", "checkpoint", "send b 3", "checkpoint",
            "process b", "receive x 1 from a", "send a 2", "checkpoint", "receive x 3 from a",
        ])
        self.assertEqual(recovery_line(record, (5, 4), ["a"]), (4, 3))
        self.assertEqual(recovery_line(record, (3, 2), ["b"]), (2, 0))
        record = read_record([
            "process a", "send b 1", "receive x 2 from b", "checkpoint", "send b 3",
            "process b", "receive x 1 from a", "checkpoint", "send a 2", "receive x 3 from a", "checkpoint",
        ])
        self.assertEqual(recovery_line(record, (4, 5), ["a"]), (0, 0))
        self.assertEqual(recovery_line(record, (3, 3), ["b"]), (0, 0))
        self.assertEqual(recovery_line(record, (2, 3), ["a", "b"]), (0, 0))

    def test_against_all_cuts(self):
        source = random.Random(81)
        for repetition in range(150):
            rows = some_rows(source, source.randrange(1, 4), source.randrange(18))
            if repetition % 2:
                rows = chatting_rows(source, source.randrange(2, 4), source.randrange(18))
            names = [name for name, events in rows]
            cuts = slow_cuts(rows)
            for cut in source.sample(cuts, min(6, len(cuts))):
                for count in range(len(names) + 1):
                    failed = source.sample(names, count)
                    self.assertEqual(recovery_line(Record(rows), cut, failed), slow_recovery_line(rows, cut, failed))

    def test_things_that_are_no_cuts(self):
        for thing in (
            None, True, 0, "", "00", (), [], (0,), (0, 0, 0), (0, 1), [0, 1], (4, 0), (1, 1), (-1, 0), (True, 0), [False, 0], (0, None),
            ((0, 0),), [[0, 0]], [[0], 0], ("a", 1), (0, "0"),
        ):
            with self.subTest(thing):
                for failed in ([], ["a"], ["c"]):
                    self.assertEqual(raised(recovery_line, RECOVERY, thing, failed), ("BadCut", frozen(thing)))
        with self.assertRaises(ValueError):
            recovery_line(RECOVERY, nested(50000), [])

    def test_names_that_are_no_process(self):
        for failed, name in ((["c"], "c"), (["a", "x", "c"], "x"), (("b", ""), ""), (["a", "b", "A", "a"], "A")):
            self.assertEqual(raised(recovery_line, RECOVERY, (0, 0), failed), ("UnknownProcess", name))

    def test_nothing_is_changed(self):
        cut, failed = [2, 2], ["a", "a"]
        recovery_line(RECOVERY, cut, failed)
        self.assertEqual([cut, failed], [[2, 2], ["a", "a"]])

    def test_a_large_record(self):
        # A failure of the last process takes back one checkpoint after the other, of all processes.
        names = ["p" + one + other for one in "abcdefgh" for other in "vwxyz"]
        rows = {name: [] for name in names}
        for turn in range(3):
            for one, other in zip(names, names[1:] + names[:1]):
                rows[one].append(("send", other, 1))
                rows[other] += [("receive", one, "x", 1), ("checkpoint",)]
        record = Record(list(rows.items()))
        full = tuple(record.length(name) for name in names)
        self.assertEqual(recovery_line(record, full, []), full)
        line = recovery_line(record, full, names[:1])
        self.assertEqual(line, full)
        self.assertEqual(recovery_line(record, full[:1] + full[1:], names), recovery_line(record, full, names[::-1]))
        self.assertEqual(useless_checkpoints(record), [
            event for event in checkpoints_in(rows_of(record)) if zigzag(record, event) is not None
        ])


class UselessTest(unittest.TestCase):

    def test_the_example(self):
        self.assertEqual(useless_checkpoints(ZIGZAG), [("p", 2)])
        self.assertEqual(zigzag(ZIGZAG, ("p", 2)), (("p", 3), ("q", 1)))
        self.assertEqual(zigzag(event=["p", 2], record=ZIGZAG), (("p", 3), ("q", 1)))

    def test_no_useless_ones(self):
        self.assertEqual(useless_checkpoints(RECOVERY), [])
        for event in (("a", 1), ("a", 3), ("b", 2)):
            self.assertIsNone(zigzag(RECOVERY, event))

    def test_the_ends_of_the_processes_count(self):
        # q has no checkpoint at all, but its end and its beginning.
        record = read_record(["process p", "receive x 1 from q", "checkpoint", "process q", "send p 1"])
        self.assertEqual(useless_checkpoints(record), [])
        record = read_record(["process p", "receive x 1 from q", "checkpoint", "process q", "send p 1", "checkpoint", "set x 1"])
        self.assertEqual(useless_checkpoints(record), [])
        record = read_record(["process p", "checkpoint", "send q 1", "process q", "receive x 1 from p"])
        self.assertEqual(useless_checkpoints(record), [])

    def test_a_message_that_is_never_received(self):
        lines = ["process p", "receive x 1 from q", "checkpoint", "send q 2", "process q", "send p 1"]
        self.assertEqual(useless_checkpoints(read_record(lines)), [])
        self.assertIsNone(zigzag(read_record(lines), ("p", 2)))
        self.assertIs(is_zigzag(read_record(lines), ("p", 2), (("p", 3), ("q", 1))), False)

    def test_a_long_one(self):
        self.assertEqual(useless_checkpoints(LONG), slow_useless(rows_of(LONG)))
        for event in checkpoints_in(rows_of(LONG)):
            self.assertEqual(zigzag(LONG, event) is not None, event in useless_checkpoints(LONG))

    def test_against_all_global_checkpoints(self):
        source = random.Random(82)
        useless = useful = longer = 0
        for repetition in range(400):
            some = source.choice((some_rows, *(chatting_rows,) * 5))
            rows = some(source, source.choice((2, 3, 3, 3, 4)), source.randrange(12, 24))
            record = Record(rows)
            expected = slow_useless(rows)
            result = useless_checkpoints(record)
            self.assertIs(type(result), list)
            self.assertEqual(result, expected)
            for event in checkpoints_in(rows):
                found = zigzag(record, event)
                self.assertEqual(zigzag(record, list(event)), found)
                if event in expected:
                    self.assertIs(type(found), tuple)
                    self.assertTrue(slow_is_zigzag(rows, event, found))
                    self.assertIs(is_zigzag(record, event, found), True)
                    longer += len(found) > 2
                else:
                    self.assertIsNone(found)
            useless += len(expected)
            useful += len(checkpoints_in(rows)) - len(expected)
        for count in (useless, useful):
            self.assertGreater(count, 50)
        self.assertGreater(longer, 5)

    def test_things_that_are_no_checkpoint_events(self):
        record = read_record([
            "process a", "checkpoint", "set x 1", "send b 1", "receive y 2 from b", "take y 3 from b", "input z 1",
            "process b", "send a 2", "send a 3", "process c",
        ])
        self.assertIsNone(zigzag(record, ("a", 1)))
        others = [thing for thing in OTHER_THINGS if thing not in (("a", 1), ["a", 1])]
        for thing in (*others, ("a", 2), ["a", 3], ("a", 4), ("a", 5), ("a", 6), ("b", 1), ("a", 7)):
            with self.subTest(thing):
                expected = ("BadEvent", frozen(thing))
                self.assertEqual(raised(zigzag, record, thing), expected)
                self.assertEqual(raised(is_zigzag, record, thing, (("a", 3), ("b", 1))), expected)
                self.assertEqual(raised(is_zigzag, record, thing, None), expected)
        for function in (lambda thing: zigzag(record, thing), lambda thing: is_zigzag(record, thing, ())):
            with self.assertRaises(ValueError):
                function(nested(50000))

    def test_lists_belong_to_the_caller(self):
        useless_checkpoints(ZIGZAG).clear()
        self.assertEqual(useless_checkpoints(record=ZIGZAG), [("p", 2)])


class IsZigzagTest(unittest.TestCase):

    def test_the_example(self):
        self.assertIs(is_zigzag(ZIGZAG, ("p", 2), (("p", 3), ("q", 1))), True)
        self.assertIs(is_zigzag(ZIGZAG, ["p", 2], (("p", 3), ("q", 1))), True)
        self.assertIs(is_zigzag(thing=(("p", 3), ("q", 1)), event=("p", 2), record=ZIGZAG), True)

    def test_one_part_otherwise(self):
        for thing in (
            (("q", 1), ("p", 3)), (("p", 3),), (("q", 1),), (), (("p", 3), ("q", 2)), (("p", 3), ("p", 3)), (("p", 1), ("q", 1)),
            (("p", 2), ("q", 1)), (("p", 3), ("q", 1), ("q", 1)), (("p", 3), ("p", 3), ("q", 1)), (("p", 3), ("q", 1), ("p", 3)),
            [("p", 3), ("q", 1)], (["p", 3], ("q", 1)), (("p", 3), ["q", 1]), (("p", 3), ("q", True)), (("p", 3), ("q", 1, 1)),
            (("p", 3), ("q",)), (("p", 3), ()), (("p", 3), None), (("p", 3), "q1"), (("p", 3), ("q", 0)), (("p", 3), ("q", 3)),
            (("p", 3), ("r", 1)), (("p", 3), ("q", "1")), (("p", 3), ("q", None)), (("p", 3), (("q",), 1)), ((("p", 3), ("q", 1)),),
            ("p", 3), ("zigzag", (("p", 3), ("q", 1))), (("p", 4), ("q", 1)), (("p", 3), ("q", -1)), (("p", 3), (["q"], 1)),
        ):
            with self.subTest(thing):
                self.assertIs(is_zigzag(ZIGZAG, ("p", 2), thing), False)

    def test_a_receive_in_the_place_of_a_send(self):
        record = read_record([
            "process p", "send q 9", "receive x 1 from q", "checkpoint", "send q 2",
            "process q", "send p 1", "receive y 9 from p", "take y 2 from p",
        ])
        self.assertIs(is_zigzag(record, ("p", 3), (("p", 4), ("q", 1))), True)
        for number in (2, 3):
            self.assertIs(is_zigzag(record, ("p", 3), (("p", 4), ("q", number))), False)

    def test_any_objects(self):
        for thing in (*OTHER_THINGS, None, 5, "pq", ((),), [[]], True, nested(50000), (nested(50000), ("q", 1)), ("p", nested(9))):
            self.assertIs(is_zigzag(ZIGZAG, ("p", 2), thing), False)
        deep = ()
        for level in range(100000):
            deep = (deep,)
        for thing in (deep, (deep, deep), (("p", 3), deep), (("p", deep), ("q", 1)), ((deep, 3), ("q", 1))):
            self.assertIs(is_zigzag(ZIGZAG, ("p", 2), thing), False)

    def test_a_send_several_times(self):
        # q and r send to one another within one interval each, as often as one likes.
        record = read_record([
            "process p", "receive x 9 from q", "checkpoint", "send q 1",
            "process q", "send p 9", "send r 2", "receive x 1 from p", "receive y 3 from r",
            "process r", "send q 3", "receive x 2 from q",
        ])
        first, last, there, back = ("p", 3), ("q", 1), ("q", 2), ("r", 1)
        for count in range(5):
            self.assertIs(is_zigzag(record, ("p", 2), (first, *(there, back) * count, last)), True)
            self.assertIs(is_zigzag(record, ("p", 2), (first, *(back, there) * count, last)), count == 0)
            self.assertIs(is_zigzag(record, ("p", 2), (first, *(there, back) * count, there, last)), False)

    def test_intervals(self):
        # q sends in the interval in which it receives, in a later one, or in an earlier one.
        for lines, expected in (
            (["send p 1", "receive y 2 from p"], True), (["checkpoint", "send p 1", "receive y 2 from p"], True),
            (["send p 1", "checkpoint", "receive y 2 from p"], False),
        ):
            record = read_record(["process p", "receive x 1 from q", "checkpoint", "send q 2", "process q", *lines])
            send = (("q", 2) if lines[0] == "checkpoint" else ("q", 1))
            self.assertIs(is_zigzag(record, ("p", 2), (("p", 3), send)), expected)
        # A receive by r and a send of it behind the next checkpoint.
        record = read_record([
            "process p", "receive x 1 from q", "checkpoint", "send r 2", "process q", "send p 1", "receive y 5 from r",
            "process r", "receive z 2 from p", "checkpoint", "send q 5",
        ])
        self.assertIs(is_zigzag(record, ("p", 2), (("p", 3), ("r", 3), ("q", 1))), True)

    def test_against_the_words(self):
        source = random.Random(83)
        answers = {True: 0, False: 0}
        for repetition in range(150):
            rows = chatting_rows(source, source.randrange(2, 4), source.randrange(14, 26))
            record = Record(rows)
            sends = [one for one, other in slow_messages(rows)]
            for event in checkpoints_in(rows):
                for length in (1, 2, 3):
                    for thing in itertools.islice(itertools.product(sends, repeat=length), 60):
                        expected = slow_is_zigzag(rows, event, thing)
                        self.assertIs(is_zigzag(record, event, thing), expected)
                        answers[expected] += 1
                found = zigzag(record, event)
                for at in range(len(found or ())):
                    for other in sends:
                        thing = found[:at] + (other,) + found[at + 1:]
                        self.assertIs(is_zigzag(record, event, thing), slow_is_zigzag(rows, event, thing))
        self.assertGreater(answers[True], 30)


if __name__ == "__main__":
    unittest.main()
