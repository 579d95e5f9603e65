"""[3], [5], [31], [32]: needed takes, and runs that keep to a log."""

import itertools
import random
import unittest

from rerunrein.logs import needed_takes, other_sender, rerun
from rerunrein.machine import run
from rerunrein.programs import parse_program
from rerunrein.records import Record, first_departure, read_record
from tests.machine_oracle import SlowMachine, some_program
from tests.raised import raised
from tests.record_oracle import slow_cuts, slow_under_way, some_rows
from tests.test_records import OTHER_THINGS, frozen, nested

EXAMPLE = read_record([
    "process a", "take x 5 from b", "take y 6 from c", "process b", "send a 5", "process c", "send a 6",
])
PROGRAM = parse_program(["process a", "take x", "take y", "process b", "send a 5", "process c", "send a 6"])


def rows_of(record):
    return [(name, record.events(name)) for name in record.names()]


def takes_in(rows):
    return [(name, number) for name, events in rows for number, event in enumerate(events, 1) if event[0] == "take"]


def slow_other_sender(rows, take):
    """The same as other_sender by a look at all states in which the take is the next event of its process."""
    names = [name for name, events in rows]
    at = names.index(take[0])
    sender = dict(rows)[take[0]][take[1] - 1][1]
    cuts = [cut for cut in slow_cuts(rows) if cut[at] == take[1] - 1]
    for other in names:
        states = [
            cut for cut in cuts
            if (other, take[0]) in [(one, receiver) for one, receiver, values in slow_under_way(rows, cut)]
        ]
        if other != sender and states:
            return tuple(map(min, zip(*states))), other
    return None


class NeededTest(unittest.TestCase):

    def test_the_example(self):
        self.assertEqual(needed_takes(EXAMPLE), [("a", 1)])
        self.assertEqual(other_sender(EXAMPLE, ("a", 1)), ((0, 0, 1), "c"))
        self.assertIsNone(other_sender(EXAMPLE, ("a", 2)))
        self.assertEqual(other_sender(event=["a", 1], record=EXAMPLE), ((0, 0, 1), "c"))

    def test_no_takes(self):
        for lines in (["process a"], ["process a", "send b 1", "process b", "receive x 1 from a", "checkpoint"]):
            self.assertEqual(needed_takes(read_record(lines)), [])

    def test_a_message_that_is_never_received(self):
        record = read_record(["process a", "take x 5 from b", "process b", "send a 5", "process c", "set x 1", "send a 6"])
        self.assertEqual(needed_takes(record), [("a", 1)])
        self.assertEqual(other_sender(record, ("a", 1)), ((0, 0, 2), "c"))

    def test_a_receive_uses_up_a_message(self):
        lines = ["process a", "receive y 6 from c", "take x 5 from b", "process b", "send a 5", "process c", "send a 6"]
        self.assertEqual(needed_takes(read_record(lines)), [])
        record = read_record(lines + ["send a 7"])
        self.assertEqual(needed_takes(record), [("a", 2)])
        self.assertEqual(other_sender(record, ("a", 2)), ((1, 0, 2), "c"))

    def test_two_processes_alone(self):
        source = random.Random(71)
        for repetition in range(30):
            self.assertEqual(needed_takes(Record(some_rows(source, 2, 30))), [])

    def test_a_send_behind_the_take(self):
        lines = ["process a", "take x 5 from b", "send c 1", "take y 6 from c", "process b", "send a 5", "process c"]
        record = read_record(lines + ["receive z 1 from a", "send a 6"])
        self.assertEqual(needed_takes(record), [])
        self.assertIsNone(other_sender(record, ("a", 1)))
        record = read_record(lines + ["send a 6", "receive z 1 from a"])
        self.assertEqual(needed_takes(record), [("a", 1)])

    def test_only_the_next_message_of_a_sender_counts(self):
        # The first message of c is sent behind the take, so no message of c can be there.
        record = read_record([
            "process a", "take x 5 from b", "send c 1", "process b", "send a 5", "process c", "receive z 1 from a",
            "send a 6", "send a 7",
        ])
        self.assertEqual(needed_takes(record), [])

    def test_the_first_of_several_senders(self):
        record = read_record([
            "process d", "send a 1", "process c", "send a 2", "process a", "checkpoint", "take x 5 from b",
            "process b", "send a 5", "process e", "send a 9",
        ])
        self.assertEqual(needed_takes(record), [("a", 2)])
        self.assertEqual(other_sender(record, ("a", 2)), ((1, 0, 1, 0, 0), "d"))

    def test_the_cut_has_all_that_is_ahead(self):
        record = read_record([
            "process a", "receive y 1 from b", "checkpoint", "take x 2 from b", "process b", "checkpoint", "send a 1", "send a 2",
            "process c", "receive z 3 from d", "send a 4", "process d", "checkpoint", "send c 3",
        ])
        self.assertEqual(other_sender(record, ("a", 3)), ((2, 2, 2, 2), "c"))

    def test_against_all_states(self):
        source = random.Random(72)
        needed = free = 0
        for repetition in range(250):
            rows = some_rows(source, source.randrange(2, 5), source.randrange(6, 22))
            record = Record(rows)
            expected = {take: slow_other_sender(rows, take) for take in takes_in(rows)}
            result = needed_takes(record)
            self.assertIs(type(result), list)
            self.assertEqual(result, [take for take in expected if expected[take] is not None])
            for take in expected:
                self.assertEqual(other_sender(record, take), expected[take])
                self.assertEqual(other_sender(record, list(take)), expected[take])
            needed += len(result)
            free += len(expected) - len(result)
        self.assertGreater(needed, 60)
        self.assertGreater(free, 60)

    def test_things_that_are_no_take_events(self):
        record = read_record([
            "process a", "receive x 5 from b", "send b 3", "checkpoint", "set x 1", "input y 2", "take z 1 from b", "take z 2 from b",
            "process b", "send a 5", "send a 1", "send a 2", "process c",
        ])
        self.assertIsNone(other_sender(record, ("a", 6)))
        for thing in (*OTHER_THINGS, ("a", 1), ["a", 2], ("a", 3), ("a", 4), ("a", 5), ("b", 1), ("a", 8), (("a", 6),), ["a", True]):
            with self.subTest(thing):
                self.assertEqual(raised(other_sender, record, thing), ("BadEvent", frozen(thing)))
        with self.assertRaises(ValueError):
            other_sender(record, nested(50000))

    def test_lists_belong_to_the_caller(self):
        needed_takes(EXAMPLE).clear()
        self.assertEqual(needed_takes(record=EXAMPLE), [("a", 1)])

    def test_a_large_record(self):
        names = ["p" + one + other for one in "abcdefgh" for other in "vwxyz"]
        rows = [(name, [("send", names[0], 1)] * 5) for name in names[1:]]
        taken = [("take", name, "x", 1) for turn in range(5) for name in names[1:]]
        record = Record([(names[0], taken)] + rows)
        # In the end the only messages left are those of one sender.
        self.assertEqual(needed_takes(record), [(names[0], number) for number in range(1, 195)])
        self.assertEqual(other_sender(record, (names[0], 1)), ((0, 0, 1) + (0,) * 37, names[2]))


def slow_options(slow, record, log):
    """The options of a run that keeps to a log, on a slow machine."""
    rows = dict(rows_of(record))
    found = []
    for name, sender in slow.options():
        number = len([one for one, event in slow.history if one == name]) + 1
        if number > len(rows.get(name, ())):
            continue
        if slow.processes[name].here[0] == "take" and (name, number) in log and sender != rows[name][number - 1][1]:
            continue
        found.append((name, sender))
    return found


def slow_rerun(lines, inputs, record, log, choices):
    slow = SlowMachine(lines, inputs)
    for choice in choices:
        options = slow_options(slow, record, log)
        if options:
            slow.step(*options[choice % len(options)])
    return Record(slow.rows())


def choices_to(lines, inputs, record, log, cut, last):
    """Choices with which a run that keeps to a log passes a cut and then makes this step."""
    slow = SlowMachine(lines, inputs)
    choices = []
    while True:
        options = slow_options(slow, record, log)
        left = [
            (name, sender) for name, sender in options
            if len([one for one, event in slow.history if one == name]) < cut[record.names().index(name)]
        ]
        step = left[0] if left else last
        choices.append(options.index(step))
        if not left:
            return choices
        slow.step(*step)


def some_talk(random):
    """Lines of a program of processes that send a lot and take a lot, and do what the messages tell."""
    names = random.sample(["a", "b", "c", "d"], random.randrange(3, 5))
    lines = []
    for at, name in enumerate(names):
        lines += [f"process {name}", f"set x {at + 1}"]
        for repetition in range(random.randrange(2, 7)):
            other = random.choice([one for one in names if one != name])
            lines += random.choice((
                [f"send {other} x"], [f"send {other} x * 2 + y"], ["take x"], ["take y"], ["take x"], ["checkpoint"],
                ["if x mod 2 = 0", f"send {other} x + 5", "else", "take y", "end"],
            ))
    return lines


class RerunTest(unittest.TestCase):

    def test_the_example(self):
        # First c sends, then a takes its message if the log allows it.
        self.assertEqual(rerun(PROGRAM, [], EXAMPLE, [("a", 1)], [1, 0, 0, 0, 0]), EXAMPLE)
        other = read_record(["process a", "take x 6 from c", "take y 5 from b", "process b", "send a 5", "process c", "send a 6"])
        self.assertEqual(rerun(PROGRAM, [], EXAMPLE, [], [1, 0, 0, 0, 0]), other)
        self.assertEqual(rerun(PROGRAM, [], EXAMPLE, [("a", 2)], [1, 0, 0, 0, 0]).events("a"), (("take", "c", "x", 6),))

    def test_every_row_of_choices(self):
        for choices in itertools.product(range(3), repeat=4):
            for log in ([("a", 1)], [["a", 1]], (("a", 1), ["a", 1]), [("a", 1), ("a", 2), ("a", 1)]):
                self.assertEqual(rerun(PROGRAM, [], EXAMPLE, log, choices), EXAMPLE)
        found = [rerun(PROGRAM, [], EXAMPLE, [], choices) == EXAMPLE for choices in itertools.product(range(3), repeat=4)]
        self.assertIn(True, found)
        self.assertIn(False, found)

    def test_a_process_that_waits_for_its_sender_is_not_ready(self):
        # c sends, and then b is the only ready process.
        record = rerun(PROGRAM, [], EXAMPLE, [("a", 1)], [1, 5, 0])
        self.assertEqual(rows_of(record), [("a", (("take", "b", "x", 5),)), ("b", (("send", "a", 5),)), ("c", (("send", "a", 6),))])

    def test_choices(self):
        self.assertEqual(rerun(PROGRAM, [], EXAMPLE, [], []), Record([("a", []), ("b", []), ("c", [])]))
        self.assertEqual(rerun(PROGRAM, [], EXAMPLE, [], [0]), Record([("a", []), ("b", [("send", "a", 5)]), ("c", [])]))
        self.assertEqual(rerun(PROGRAM, [], EXAMPLE, [], (7,)), Record([("a", []), ("b", []), ("c", [("send", "a", 6)])]))
        self.assertEqual(rerun(PROGRAM, [], EXAMPLE, [("a", 1)], [0] * 400), EXAMPLE)

    def test_as_many_events_as_recorded(self):
        program = parse_program(["process a", "while 0 = 0", "send b n", "set n n + 1", "end", "process b", "while 0 = 0", "take x", "end"])
        for steps in range(12):
            record = run(program, [], [0, 0, 1, 1, 0, 0, 1, 0, 0, 1, 1, 0][:steps]).record()
            self.assertEqual(rerun(program, [], record, [], [1] * 50), record)
            self.assertEqual(rerun(program, [], record, [], [0] * 50), record)
            self.assertEqual(rerun(program, [], record, needed_takes(record), range(400)), record)

    def test_processes_that_are_not_in_the_record(self):
        program = parse_program(["process z", "set x 1", "send a 1", "process a", "set x 2", "take y"])
        record = read_record(["process a", "set x 2", "set x 3", "set x 4"])
        expected = Record([("z", []), ("a", [("set", "x", 2)])])
        self.assertEqual(rerun(program, [], record, [], [0] * 9), expected)
        self.assertEqual(rerun(program, [], record, [], [1] * 9), expected)

    def test_processes_that_the_program_does_not_have(self):
        program = parse_program(["process b", "send c 5", "take y", "process c", "take x", "send b 6"])
        record = read_record([
            "process a", "take x 5 from b", "send c 8", "process b", "send a 5", "take y 7 from c", "process c", "take x 8 from a", "send b 7",
        ])
        expected = Record([
            ("b", [("send", "c", 5), ("take", "c", "y", 6)]), ("c", [("take", "b", "x", 5), ("send", "b", 6)]),
        ])
        for log in ([], [("a", 1)], [("b", 2), ("a", 1)]):
            self.assertEqual(rerun(program, [], record, log, [0] * 9), expected)
        # A take whose recorded sender is not there waits for ever.
        self.assertEqual(rerun(program, [], record, [("c", 1)], [0] * 9), Record([("b", [("send", "c", 5)]), ("c", [])]))

    def test_a_receive_at_the_place_of_a_take(self):
        program = parse_program(["process a", "receive x c", "receive y b", "process b", "send a 5", "process c", "send a 6"])
        expected = read_record([
            "process a", "receive x 6 from c", "receive y 5 from b", "process b", "send a 5", "process c", "send a 6",
        ])
        self.assertEqual(rerun(program, [], EXAMPLE, [("a", 1), ("a", 2)], [0] * 9), expected)

    def test_other_events_at_the_place_of_a_take(self):
        program = parse_program(["process a", "set x 1", "send b 2", "process b", "checkpoint", "process c"])
        expected = read_record(["process a", "set x 1", "send b 2", "process b", "checkpoint", "process c"])
        self.assertEqual(rerun(program, [], EXAMPLE, [("a", 1), ("a", 2)], [0] * 9), expected)

    def test_a_take_at_another_place_is_free(self):
        program = parse_program(["process a", "set z 1", "take x", "process b", "send a 5", "process c", "send a 6"])
        record = rerun(program, [], EXAMPLE, [("a", 1)], [2, 0, 0, 0])
        self.assertEqual(record.events("a"), (("set", "z", 1), ("take", "c", "x", 6)))
        record = rerun(program, [], EXAMPLE, [("a", 2)], [1, 0, 1, 0])
        self.assertEqual(record.events("a"), (("set", "z", 1), ("take", "c", "x", 6)))

    def test_faults_and_inputs(self):
        program = parse_program(["process a", "input x", "set y 6 // x", "process b", "take z"])
        record = read_record(["process a", "input x 1", "set y 6", "process b"])
        self.assertEqual(rerun(program, [("a", [2])], record, [], [0] * 5).events("a"), (("input", "x", 2), ("set", "y", 3)))
        self.assertEqual(rerun(program, [("a", [0])], record, [], [0] * 5).events("a"), (("input", "x", 0),))
        self.assertEqual(rerun(program, [], record, [], [0] * 5).events("a"), ())

    def test_errors_and_their_order(self):
        bad = [("a", 1), ("b", 1), None]
        for inputs, index in (([("d", [])], 0), ([("a", [1]), ("a", [])], 1), ((("b", ()), ("x", ())), 1)):
            self.assertEqual(raised(rerun, PROGRAM, inputs, EXAMPLE, bad, [0]), ("BadInputs", index))
        self.assertEqual(raised(rerun, PROGRAM, [], EXAMPLE, bad, [0]), ("BadEvent", ("b", 1)))
        for thing in (*OTHER_THINGS, ("b", 1), ["c", 1], ("a", 3), nested(50000)):
            if thing not in (("a", 1), ["a", 1]):
                self.assertEqual(raised(rerun, PROGRAM, [], EXAMPLE, [("a", 1), thing, 5], [0])[0], "BadEvent")
        self.assertEqual(raised(rerun, PROGRAM, [], EXAMPLE, [["a", [2]]], []), ("BadEvent", ("a", (2,))))
        # Events of processes that the program does not have are looked at, too.
        small = parse_program(["process a", "take x"])
        self.assertEqual(raised(rerun, small, [], EXAMPLE, [("c", 1)], []), ("BadEvent", ("c", 1)))

    def test_nothing_is_changed(self):
        inputs, log, choices = [["a", [1]]], [["a", 1], ("a", 2)], [1, 2]
        rerun(program=PROGRAM, inputs=inputs, record=EXAMPLE, log=log, choices=choices)
        self.assertEqual([inputs, log, choices], [[["a", [1]]], [["a", 1], ("a", 2)], [1, 2]])

    def test_all_needed_takes_give_the_record_back(self):
        source = random.Random(73)
        needed = 0
        for repetition in range(300):
            lines, inputs = some_program(source) if source.randrange(4) == 0 else (some_talk(source), [])
            program = parse_program(lines)
            record = run(program, inputs, [source.randrange(9) for step in range(source.randrange(60))]).record()
            self.assertIsNone(first_departure(program, inputs, record))
            log = needed_takes(record)
            needed += len(log)
            for repetition in range(4):
                source.shuffle(log)
                choices = [source.randrange(9) for step in range(60)]
                self.assertEqual(rerun(program, inputs, record, log, choices), record)
        self.assertGreater(needed, 60)

    def test_each_needed_take_is_needed(self):
        source = random.Random(74)
        tried = 0
        for repetition in range(300):
            lines, inputs = some_program(source) if source.randrange(4) == 0 else (some_talk(source), [])
            program = parse_program(lines)
            record = run(program, inputs, [source.randrange(9) for step in range(source.randrange(60))]).record()
            for take in needed_takes(record):
                log = [other for other in takes_in(rows_of(record)) if other != take]
                cut, sender = other_sender(record, take)
                choices = choices_to(lines, inputs, record, log, cut, (take[0], sender))
                event = rerun(program, inputs, record, log, choices).events(take[0])[take[1] - 1]
                self.assertEqual(event[:2], ("take", sender))
                self.assertNotEqual(sender, record.events(take[0])[take[1] - 1][1])
                tried += 1
        self.assertGreater(tried, 60)

    def test_programs_that_do_otherwise_than_the_record(self):
        source = random.Random(75)
        for repetition in range(200):
            lines, inputs = some_program(source) if source.randrange(4) == 0 else (some_talk(source), [])
            record = Record(some_rows(source, source.randrange(2, 5), source.randrange(40)))
            if source.randrange(2):
                record = run(parse_program(lines), [], [source.randrange(9) for step in range(40)]).record()
            takes = takes_in(rows_of(record))
            log = [source.choice(takes) for repetition in range(source.randrange(9))] if takes else []
            choices = [source.randrange(9) for step in range(source.randrange(40))]
            expected = slow_rerun(lines, inputs, record, log, choices)
            self.assertEqual(rerun(parse_program(lines), inputs, record, log, choices), expected)


if __name__ == "__main__":
    unittest.main()
