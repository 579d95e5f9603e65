"""The console: working with programs, records and steering by lines of text."""

from rerunrein.checkpoints import recovery_line, useless_checkpoints
from rerunrein.commands import NEEDS, cut_text, event_text, joined_lines, joined_words, read_command
from rerunrein.conditions import Conditions
from rerunrein.errors import BadLine, Missing, UnknownProcess
from rerunrein.logs import needed_takes
from rerunrein.machine import Machine, make_steps
from rerunrein.programs import parse_program
from rerunrein.records import event_line
from rerunrein.replays import Replay
from rerunrein.scripts import steered_lines
from rerunrein.steering import steer

DONE = "done"


def tell_add(console, parts):
    """Adds a program line."""
    console.texts.append(parts[0])
    return str(len(console.texts))


def tell_clear(console, parts):
    """Removes the program lines."""
    console.texts = []
    return DONE


def tell_program(console, parts):
    """Makes the program."""
    console.program = parse_program(console.texts)
    console.inputs = {}
    console.machine = None
    console.put_record(None)
    return joined_words(console.program.names())


def tell_feed(console, parts):
    """Sets the inputs of a process."""
    name, numbers = parts
    if name not in console.program.names():
        raise UnknownProcess(name)
    console.inputs[name] = numbers
    return DONE


def tell_begin(console, parts):
    """Makes a machine."""
    console.machine = Machine(console.program, list(console.inputs.items()))
    return DONE


def tell_ready(console, parts):
    """The ready processes."""
    return joined_words(console.machine.ready())


def tell_do(console, parts):
    """Makes a step of the machine."""
    sender = parts[1] if len(parts) > 1 else None
    return event_line(console.machine.step(parts[0], sender=sender))


def tell_run(console, parts):
    """Makes the steps of the machine that the choices choose."""
    return str(make_steps(console.machine, parts[0]))


def tell_status(console, parts):
    """The status of a process."""
    return console.machine.status(parts[0])


def tell_variables(console, parts):
    """The variables of a process."""
    return joined_words([f"{variable}={number}" for variable, number in console.machine.variables(parts[0])])


def tell_keep(console, parts):
    """Makes the record of the machine the record."""
    record = console.machine.record()
    console.put_record(record)
    return joined_words([f"{name}={record.length(name)}" for name in record.names()])


def tell_show(console, parts):
    """The recorded events of a process."""
    return joined_lines([event_line(event) for event in console.kept.events(parts[0])])


def tell_needed(console, parts):
    """The needed takes."""
    return joined_words([event_text(event) for event in needed_takes(console.kept)])


def tell_useless(console, parts):
    """The useless checkpoint events."""
    return joined_words([event_text(event) for event in useless_checkpoints(console.kept)])


def tell_recover(console, parts):
    """The recovery line."""
    return cut_text(recovery_line(console.kept, parts[0], parts[1]))


def tell_rule(console, parts):
    """Adds a line of conditions."""
    # What Conditions does not accept is not added.
    console.put_rules(Conditions(console.kept, console.rules + [parts[0]]).lines())
    return DONE


def tell_rules(console, parts):
    """The lines of the conditions."""
    return joined_lines(console.rules)


def tell_unrule(console, parts):
    """Removes a line of conditions."""
    console.put_rules([rule for at, rule in enumerate(console.rules) if at != parts[0]])
    return DONE


def tell_steer(console, parts):
    """Looks for waits."""
    console.result = steer(Conditions(console.kept, console.rules))
    console.replay = None
    if console.result[0] == "waits":
        return f"waits {len(console.result[1])}"
    return f"never {console.result[1][0]}"


def tell_wait(console, parts):
    """A wait."""
    return joined_words([event_text(event) for event in console.result[1][parts[0]]])


def tell_why(console, parts):
    """The reason for a wait."""
    return cut_text(console.result[2][parts[0]])


def tell_replay(console, parts):
    """Makes a replay."""
    console.replay = Replay(console.kept, console.result[1])
    return DONE


def tell_go(console, parts):
    """Makes a step of the replay."""
    return event_line(console.replay.step(parts[0]))


def tell_cut(console, parts):
    """The cut of the replay."""
    return cut_text(console.replay.reached())


def tell_script(console, parts):
    """The lines of the script."""
    return joined_lines(steered_lines(console.kept, console.result[1]))


ACTIONS = {
    "add": tell_add, "clear": tell_clear, "program": tell_program, "feed": tell_feed, "begin": tell_begin,
    "ready": tell_ready, "do": tell_do, "run": tell_run, "status": tell_status, "variables": tell_variables,
    "keep": tell_keep, "show": tell_show, "needed": tell_needed, "useless": tell_useless, "recover": tell_recover,
    "rule": tell_rule, "rules": tell_rules, "unrule": tell_unrule, "steer": tell_steer, "wait": tell_wait,
    "why": tell_why, "replay": tell_replay, "go": tell_go, "cut": tell_cut, "script": tell_script,
}


class Console:
    """What lines of text have made so far."""

    def __init__(self):
        self.texts = []
        self.program = None
        self.inputs = {}
        self.machine = None
        self.kept = None
        self.rules = []
        self.result = None
        self.replay = None

    def tell(self, line):
        """Carries out a line and returns its answer."""
        command = read_command(line)
        if command is None:
            raise BadLine(line)
        word, parts = command
        if not self.has(NEEDS.get(word)):
            raise Missing(NEEDS[word])
        if word in ("unrule", "wait", "why") and parts[0] >= self.count_for(word):
            raise BadLine(line)
        action = ACTIONS[word]
        return action(self, parts)

    def has(self, what):
        """Whether there is what a line needs."""
        if what == "program":
            return self.program is not None
        if what == "machine":
            return self.machine is not None
        if what == "record":
            return self.kept is not None
        if what == "result":
            return self.result is not None and self.result[0] == "waits"
        return what is None or self.replay is not None

    def count_for(self, word):
        """How many there are of what a line counts."""
        return len(self.rules) if word == "unrule" else len(self.result[1])

    def put_record(self, record):
        """Takes a record, or None, in the place of the one that was there."""
        self.kept = record
        self.put_rules([])

    def put_rules(self, rules):
        """Takes lines of conditions in the place of those that were there."""
        self.rules = rules
        self.result = None
        self.replay = None
