"""[17] to [21], [26]: random programs, step by step beside a slow machine."""

import random
import unittest

from rerunrein.machine import Machine, run
from rerunrein.programs import parse_program
from rerunrein.records import Record, first_departure
from tests.machine_oracle import FAULTS, SlowMachine, slow_departure, some_program
from tests.raised import raised

PROGRAMS = 400
STEPS = 40


def seen(machine, names):
    """All that a machine shows."""
    return (
        [machine.status(name) for name in names],
        [machine.senders(name) for name in names],
        [machine.variables(name) for name in names],
        [machine.channel(one, other) for one in names for other in names],
    )


def some_machine(source):
    lines, inputs = some_program(source)
    return lines, inputs, Machine(parse_program(lines), inputs), SlowMachine(lines, inputs)


def changed_lines(source, lines):
    """Lines of a program with one line of an event left out, doubled, or put in the place of its neighbour."""
    events = [at for at, line in enumerate(lines) if line.split(" ")[0] not in ("process", "if", "while", "else", "end")]
    at = source.choice(events)
    choice = source.randrange(3)
    if choice == 2 and at + 1 in events:
        return lines[:at] + [lines[at + 1], lines[at]] + lines[at + 2:]
    return lines[:at] + [lines[at]] * (2 * choice) + lines[at + 1:]


class RandomMachinesTest(unittest.TestCase):

    def test_each_step(self):
        source = random.Random(1)
        outcomes = set()
        for repetition in range(PROGRAMS):
            lines, inputs, machine, slow = some_machine(source)
            for step in range(STEPS):
                self.assertEqual(seen(machine, slow.names), seen(slow, slow.names), lines)
                self.assertEqual(machine.ready(), [name for name in slow.names if slow.status(name) == "ready"])
                options = slow.options()
                if not options:
                    break
                name, sender = source.choice(options)
                if source.randrange(2):
                    sender = None
                self.assertEqual(machine.step(name, sender=sender), slow.step(name, sender), lines)
            outcomes.update(machine.status(name) for name in slow.names)
            self.assertEqual(machine.record(), Record(slow.rows()))
        self.assertEqual(outcomes, {"ended", "ready", "waiting", *FAULTS})

    def test_steps_that_are_refused(self):
        source = random.Random(2)
        for repetition in range(100):
            lines, inputs, machine, slow = some_machine(source)
            for step in range(STEPS):
                for name in slow.names:
                    for sender in [None, *slow.names, "other"]:
                        expected = None
                        if slow.status(name) != "ready":
                            expected = ("NotReady", name)
                        elif sender is not None and sender not in slow.senders(name):
                            expected = ("BadSender", sender)
                        if expected:
                            self.assertEqual(raised(machine.step, name, sender=sender), expected)
                self.assertEqual(seen(machine, slow.names), seen(slow, slow.names), lines)
                self.assertEqual(machine.record(), Record(slow.rows()))
                options = slow.options()
                if not options:
                    break
                choice = source.choice(options)
                machine.step(choice[0], sender=choice[1])
                slow.step(*choice)

    def test_runs(self):
        source = random.Random(3)
        for repetition in range(PROGRAMS):
            lines, inputs, machine, slow = some_machine(source)
            choices = [source.choice((0, 1, 2, 3, source.randrange(10 ** 6))) for step in range(source.randrange(STEPS))]
            for choice in choices:
                options = slow.options()
                if options:
                    slow.step(*options[choice % len(options)])
            machine = run(parse_program(lines), inputs, choices)
            self.assertEqual(seen(machine, slow.names), seen(slow, slow.names), lines)
            self.assertEqual(machine.record(), Record(slow.rows()))

    def test_copies_go_on_on_their_own(self):
        source = random.Random(4)
        for repetition in range(100):
            lines, inputs, machine, slow = some_machine(source)
            copies = []
            for step in range(STEPS):
                copies.append((machine.copy(), seen(machine, slow.names), machine.record()))
                options = slow.options()
                if not options:
                    break
                choice = source.choice(options)
                machine.step(choice[0], sender=choice[1])
                slow.step(*choice)
            for at, (copy, shown, record) in enumerate(copies):
                self.assertEqual(seen(copy, slow.names), shown, lines)
                self.assertEqual(copy.record(), record)
                for name, event in slow.history[at:]:
                    sender = event[1] if event[0] == "take" else None
                    self.assertEqual(copy.step(name, sender=sender), event)
                self.assertEqual(seen(copy, slow.names), seen(slow, slow.names))
                self.assertEqual(copy.record(), Record(slow.rows()))

    def test_departures(self):
        source = random.Random(5)
        departed = 0
        for repetition in range(PROGRAMS):
            lines, inputs = some_program(source)
            program = parse_program(lines)
            record = run(program, inputs, [source.randrange(6) for step in range(STEPS)]).record()
            self.assertIsNone(first_departure(program, inputs, record), lines)
            others = [(name, [number + source.randrange(2) for number in numbers]) for name, numbers in inputs]
            rows = [(name, record.events(name)) for name in record.names()]
            changed = changed_lines(source, lines)
            expected = slow_departure(changed, others, rows)
            self.assertEqual(first_departure(parse_program(changed), others, record), expected, changed)
            departed += expected is not None
        self.assertGreater(departed, 60)


if __name__ == "__main__":
    unittest.main()
