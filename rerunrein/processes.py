"""One process by itself: how it goes through tests, and what its events are and do."""

from rerunrein.common import assigned
from rerunrein.errors import BadInputs, Fault
from rerunrein.expressions import evaluate

MOST_TESTS = 100


class Process:
    """A process that stands at a statement, has ended, or has stopped with a fault."""

    def __init__(self, code, supply):
        """The code is what code_of returned, the supply the tuple of the inputs."""
        self.code = code
        self.supply = supply
        self.used = 0
        self.place = 0
        self.memory = {variable: 0 for variable in variables_of(code)}
        self.fault = None
        # The integer that the set, send or input at which the process stands is about.
        self.worth = None
        self.arrive()

    def arrive(self):
        """Goes on to the next statement, the end or a fault."""
        try:
            self.pass_tests()
            self.worth = self.worth_here()
        except Fault as failure:
            self.fault = failure.reason

    def pass_tests(self):
        """Goes on to the next statement or the end."""
        tests = 0
        while self.place < len(self.code):
            step = self.code[self.place]
            if step[0] == "jump":
                self.place = step[1]
            elif step[0] == "test":
                if tests == MOST_TESTS:
                    raise Fault("loop")
                tests += 1
                self.place = self.place + 1 if self.value_of(step[1]) else step[2]
            else:
                return

    def value_of(self, node):
        """The value of an expression or condition now."""
        return evaluate(node, list(self.memory.items()))

    def worth_here(self):
        """The integer that the statement at which the process stands is about, or None."""
        statement = self.statement()
        if statement is None:
            return None
        if statement[0] == "set" or statement[0] == "send":
            return self.value_of(statement[2])
        if statement[0] != "input":
            return None
        if self.used == len(self.supply):
            raise Fault("input")
        return self.supply[self.used]

    def statement(self):
        """The statement at which the process stands, or None if it has ended or stopped."""
        if self.fault is not None or self.place == len(self.code):
            return None
        return self.code[self.place]

    def form(self, sender, message):
        """The recorded form of the next event; a take gets this message from this sender."""
        statement = self.statement()
        word = statement[0]
        if word == "receive":
            return (word, statement[2], statement[1], message)
        if word == "take":
            return (word, sender, statement[1], message)
        if word == "checkpoint":
            return (word,)
        return (word, statement[1], self.worth)

    def execute(self, event):
        """Executes the next event, which has this recorded form."""
        change = assigned(event)
        if change is not None:
            self.memory[change[0]] = change[1]
        if event[0] == "input":
            self.used += 1
        self.place += 1
        self.arrive()

    def copy(self):
        """An independent process in the same state."""
        twin = Process(self.code, self.supply)
        twin.used = self.used
        twin.place = self.place
        twin.memory = dict(self.memory)
        twin.fault = self.fault
        twin.worth = self.worth
        return twin


def code_of(body):
    """The list of the steps of a body without blocks.

    Statements are steps, and so are ("test", condition, place), which goes on at the place if the
    condition does not hold, and ("jump", place).
    """
    code = []
    add_steps(code, body)
    return code


def add_steps(code, body):
    """Adds the steps of statements to a code; blocks are nested 20 deep at most."""
    for statement in body:
        if statement[0] == "if":
            add_choice(code, statement)
        elif statement[0] == "while":
            add_loop(code, statement)
        else:
            code.append(statement)


def add_choice(code, statement):
    """Adds the steps of an if to a code."""
    test = len(code)
    code.append(None)
    add_steps(code, statement[2])
    jump = len(code)
    code.append(None)
    code[test] = ("test", statement[1], len(code))
    add_steps(code, statement[3])
    code[jump] = ("jump", len(code))


def add_loop(code, statement):
    """Adds the steps of a while to a code."""
    test = len(code)
    code.append(None)
    add_steps(code, statement[2])
    code.append(("jump", test))
    code[test] = ("test", statement[1], len(code))


def variables_of(code):
    """The list of the variables that a code names, in ascending order."""
    found = {}
    for step in code:
        if step[0] in ("set", "receive", "take", "input"):
            found[step[1]] = True
        if step[0] == "test":
            add_variables(found, step[1])
        elif step[0] == "set" or step[0] == "send":
            add_variables(found, step[2])
    return sorted(list(found))


def add_variables(found, node):
    """Adds the variables of an expression or condition to the keys of a dict."""
    parts = [node]
    while parts:
        part = parts.pop()
        if part[0] == "variable":
            found[part[1]] = True
        elif part[0] != "number":
            parts.extend(part[1:])


def inputs_by_name(program, inputs):
    """The dict of the inputs of the processes, a tuple each; raises BadInputs."""
    given = {}
    for index, pair in enumerate(inputs):
        name, numbers = pair
        if name not in program.names() or name in given:
            raise BadInputs(index)
        given[name] = tuple(numbers)
    return given


def processes_by_name(program, inputs):
    """The dict of the processes of a program, each at its beginning; raises BadInputs."""
    given = inputs_by_name(program, inputs)
    return {name: Process(code_of(program.body(name)), given.get(name, ())) for name in program.names()}
