"""Scripts: programs that can do nothing but replays of a record under waits."""

from rerunrein.common import LETTERS, RECEIVING, is_name
from rerunrein.orders import Order


def steered_lines(record, waits=()):
    """The lines of a program that replays a record under waits."""
    kept = Order(record, waits).waits()
    helpers = helper_names(record, len(kept))
    variable = helper_variable(record)
    lines = []
    for name in record.names():
        lines.append(f"process {name}")
        for number, event in enumerate(record.events(name), start=1):
            received = [helper for helper, wait in zip(helpers, kept) if wait[1] == (name, number)]
            answered = [helper for helper, wait in zip(helpers, kept) if wait[0] == (name, number)]
            lines.extend([f"receive {variable} {helper}" for helper in received])
            lines.append(statement_of(event))
            lines.extend([f"send {helper} 0" for helper in answered])
    for helper, (one, other) in zip(helpers, kept):
        lines.extend([f"process {helper}", f"receive {variable} {one[0]}", f"send {other[0]} {variable}"])
    return lines


def helper_names(record, count):
    """The first so many words of the row a, b, .., z, aa, ab, .. that are names and no processes."""
    found = []
    at = 0
    while len(found) < count:
        word = word_at(at)
        if is_name(word) and word not in record.names():
            found.append(word)
        at += 1
    return found


def word_at(at):
    """The word with this number, from 0 on, in the row a, b, .., z, aa, ab, ..."""
    word = ""
    left = at + 1
    while left > 0:
        left, place = divmod(left - 1, len(LETTERS))
        word = LETTERS[place] + word
    return word


def helper_variable(record):
    """The first word of the row z, zz, zzz, .. that is no variable of the record."""
    known = [variable for name in record.names() for variable in record.variables(name)]
    word = "z"
    while word in known:
        word += "z"
    return word


def statement_of(event):
    """The program line that repeats an event in recorded form."""
    if event[0] == "set" or event[0] == "input":
        return f"set {event[1]} {event[2]}"
    if event[0] == "send":
        return f"send {event[1]} {event[2]}"
    if event[0] in RECEIVING:
        return f"receive {event[2]} {event[1]}"
    return "checkpoint"
