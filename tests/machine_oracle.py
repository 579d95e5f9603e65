"""What [17] to [22] and [26] say of machines, with a generator of Python for each process.

The bodies of processes come from tests.program_oracle, the values of expressions from tests.oracle.
"""

from tests.oracle import Failure, some_condition, some_expression, spaced, value
from tests.program_oracle import expected_rows

FAULTS = ("loop", "division", "overflow", "input")


class SlowProcess:

    def __init__(self, body, numbers):
        self.memory = {}
        self.numbers = list(numbers)
        self.tests = 0
        self.here = None
        self.worth = None
        self.outcome = None
        self.walk = self.walked(body)
        self.go_on()

    def go_on(self):
        self.here = None
        self.tests = 0
        try:
            self.here = next(self.walk)
        except StopIteration:
            self.outcome = "ended"
        except Failure as failure:
            self.outcome = failure.reason

    def walked(self, body):
        for statement in body:
            if statement[0] == "if":
                yield from self.walked(statement[2] if self.tested(statement[1]) else statement[3])
            elif statement[0] == "while":
                while self.tested(statement[1]):
                    yield from self.walked(statement[2])
            else:
                self.worth = self.looked_at(statement)
                yield statement

    def tested(self, condition):
        self.tests += 1
        if self.tests == 101:
            raise Failure("loop")
        return value(condition, self.memory)

    def looked_at(self, statement):
        if statement[0] in ("set", "send"):
            return value(statement[2], self.memory)
        if statement[0] == "input":
            if not self.numbers:
                raise Failure("input")
            return self.numbers[0]
        return None

    def executed(self, sender, message):
        """Executes the next event and returns its recorded form."""
        word = self.here[0]
        if word == "checkpoint":
            event = (word,)
        elif word in ("receive", "take"):
            event = (word, sender, self.here[1], message)
            self.memory[self.here[1]] = message
        else:
            event = (word, self.here[1], self.worth)
            if word != "send":
                self.memory[self.here[1]] = self.worth
            if word == "input":
                self.numbers.pop(0)
        self.go_on()
        return event


def variables_in(thing):
    """The variables that statements, expressions and conditions name."""
    if not isinstance(thing, tuple) or not thing:
        return set()
    if isinstance(thing[0], tuple):
        return set().union(*map(variables_in, thing))
    if thing[0] == "variable" or thing[0] in ("receive", "take", "input"):
        return {thing[1]}
    found = {thing[1]} if thing[0] == "set" else set()
    return found.union(*map(variables_in, thing[1:]))


class SlowMachine:

    def __init__(self, lines, inputs):
        rows = expected_rows(lines)
        self.names = [name for name, body in rows]
        self.bodies = dict(rows)
        self.processes = {name: SlowProcess(body, dict(inputs).get(name, ())) for name, body in rows}
        # All messages that were ever sent and how many of them were received.
        self.sent = []
        self.received = {}
        self.history = []

    def channel(self, sender, receiver):
        numbers = [number for one, other, number in self.sent if (one, other) == (sender, receiver)]
        return numbers[self.received.get((sender, receiver), 0):]

    def senders(self, name):
        here = self.processes[name].here
        if here is None or here[0] not in ("receive", "take"):
            return []
        return [
            sender for sender in self.names
            if self.channel(sender, name) and (here[0] == "take" or here[2] == sender)
        ]

    def status(self, name):
        process = self.processes[name]
        if process.here is None:
            return process.outcome
        if process.here[0] in ("receive", "take") and not self.senders(name):
            return "waiting"
        return "ready"

    def options(self):
        found = []
        for name in self.names:
            if self.status(name) == "ready":
                at_take = self.processes[name].here[0] == "take"
                found += [(name, sender) for sender in self.senders(name)] if at_take else [(name, None)]
        return found

    def step(self, name, sender):
        senders = self.senders(name)
        message = None
        if senders:
            sender = sender or senders[0]
            message = self.channel(sender, name)[0]
            self.received[sender, name] = self.received.get((sender, name), 0) + 1
        event = self.processes[name].executed(sender, message)
        if event[0] == "send":
            self.sent.append((name, event[1], event[2]))
        self.history.append((name, event))
        return event

    def variables(self, name):
        memory = self.processes[name].memory
        return [(variable, memory.get(variable, 0)) for variable in sorted(variables_in(self.bodies[name]))]

    def rows(self):
        return tuple((name, tuple(event for one, event in self.history if one == name)) for name in self.names)


def slow_departure(lines, inputs, rows):
    """What first_departure has to return for a record with these rows, all being in the program."""
    bodies = dict(expected_rows(lines))
    for name, events in rows:
        process = SlowProcess(bodies[name], dict(inputs).get(name, ()))
        for number, event in enumerate(events, 1):
            here = process.here
            if here is None:
                return (name, number)
            if here[0] == "receive" and (event[0] != "receive" or event[1:3] != (here[2], here[1])):
                return (name, number)
            if here[0] == "take" and (event[0] != "take" or event[2] != here[1]):
                return (name, number)
            sender, message = (event[1], event[3]) if here[0] in ("receive", "take") else (None, None)
            if process.executed(sender, message) != event:
                return (name, number)
    return None


# Random programs.

def some_statements(random, others, depth):
    """Lines of a body that sends to and receives from the other processes."""
    lines = []
    for repetition in range(random.randrange(1, 5)):
        choice = random.randrange(12)
        variable = random.choice("xyz")
        expression = random.choice(("x + 1", "y", "x - y", "3", "x * y + 1"))
        if random.randrange(6) == 0:
            expression = spaced(random, some_expression(random, 1)[0])
        if choice < 3:
            lines.append(f"send {random.choice(others)} {expression}")
        elif choice < 5:
            lines.append(f"receive {variable} {random.choice(others)}")
        elif choice < 7:
            lines.append(f"take {variable}")
        elif choice == 7:
            lines.append(f"input {variable}")
        elif choice == 8:
            lines.append("checkpoint")
        elif choice == 9 or depth == 0:
            lines.append(f"set {variable} {expression}")
        else:
            condition = random.choice(("x < 4", "y != 0", "z = 0 or x > 1", "not x = y"))
            if random.randrange(6) == 0:
                condition = spaced(random, some_condition(random, 1)[0])
            lines.append(random.choice(("if ", "while ")) + condition)
            with_else = lines[-1].startswith("if") and random.randrange(2)
            lines += some_statements(random, others, depth - 1)
            if with_else:
                lines += ["else"] + some_statements(random, others, depth - 1)
            lines.append("end")
    return lines


def some_program(random):
    """Lines of a program and inputs for it."""
    names = random.sample(["a", "b", "c", "x", "pqr"], random.randrange(2, 5))
    lines = []
    for name in names:
        lines.append(f"process {name}")
        for part in range(random.randrange(1, 3)):
            lines += some_statements(random, [other for other in names if other != name], 2)
    fed = random.sample(names, random.randrange(len(names) + 1))
    return lines, [(name, [random.randrange(-9, 10) for number in range(random.randrange(4))]) for name in fed]
