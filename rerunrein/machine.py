"""Machines: running the processes of a program, which send messages to one another."""

from rerunrein.common import RECEIVING
from rerunrein.errors import BadSender, NotReady, UnknownProcess
from rerunrein.processes import processes_by_name
from rerunrein.records import Record


class Machine:
    """A program in a state of its run."""

    def __init__(self, program, inputs):
        self.program = program
        self.processes = processes_by_name(program, inputs)
        # Lists of integers by sender and receiver; a channel that was never used has none.
        self.channels = {}
        self.histories = {name: [] for name in program.names()}

    def check_name(self, name):
        """Raises an error if this is no process."""
        if name not in self.program.names():
            raise UnknownProcess(name)

    def status(self, name):
        """What a process does now: "ready", "waiting", "ended" or a fault."""
        self.check_name(name)
        process = self.processes[name]
        if process.fault is not None:
            return process.fault
        statement = process.statement()
        if statement is None:
            return "ended"
        if statement[0] in RECEIVING and not self.senders(name):
            return "waiting"
        return "ready"

    def ready(self):
        """The names of the ready processes."""
        return [name for name in self.program.names() if self.status(name) == "ready"]

    def senders(self, name):
        """The names of the processes from which a process can receive now."""
        self.check_name(name)
        statement = self.processes[name].statement()
        if statement is None or statement[0] not in RECEIVING:
            return []
        accepted = (statement[2],) if statement[0] == "receive" else self.program.names()
        return [sender for sender in accepted if self.channels.get((sender, name))]

    def step(self, name, *, sender=None):
        """Executes the next event of a process and returns its recorded form."""
        if self.status(name) != "ready":
            raise NotReady(name)
        possible = self.senders(name)
        if sender is not None and sender not in possible:
            raise BadSender(sender)
        source = possible[0] if possible and sender is None else sender
        # Only where there are senders a message is received.
        message = self.channels[(source, name)].pop(0) if possible else None
        event = self.processes[name].form(source, message)
        self.processes[name].execute(event)
        if event[0] == "send":
            self.channels.setdefault((name, event[1]), []).append(event[2])
        self.histories[name].append(event)
        return event

    def variables(self, name):
        """The pairs (variable, integer) of a process."""
        self.check_name(name)
        return list(self.processes[name].memory.items())

    def channel(self, sender, receiver):
        """The integers that are under way from one process to another."""
        self.check_name(sender)
        self.check_name(receiver)
        return list(self.channels.get((sender, receiver), ()))

    def record(self):
        """The record of all events so far."""
        return Record([(name, self.histories[name]) for name in self.program.names()])

    def copy(self):
        """An independent machine in the same state."""
        twin = Machine(self.program, ())
        twin.processes = {name: process.copy() for name, process in self.processes.items()}
        twin.channels = {channel: list(integers) for channel, integers in self.channels.items()}
        twin.histories = {name: list(events) for name, events in self.histories.items()}
        return twin


def options_of(machine):
    """The steps (name, sender) that a machine can make now."""
    options = []
    for name in machine.ready():
        if machine.processes[name].statement()[0] == "take":
            options.extend([(name, sender) for sender in machine.senders(name)])
        else:
            options.append((name, None))
    return options


def make_steps(machine, choices):
    """Makes the steps that the choices choose, and returns how many there were."""
    count = 0
    for choice in choices:
        options = options_of(machine)
        if not options:
            break
        name, sender = options[choice % len(options)]
        machine.step(name, sender=sender)
        count += 1
    return count


def run(program, inputs, choices):
    """The machine after the steps that the choices choose."""
    machine = Machine(program, inputs)
    make_steps(machine, choices)
    return machine
