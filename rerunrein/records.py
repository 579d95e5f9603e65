"""Records: what each process of a run did."""

from rerunrein.common import MOST_PROCESSES, RECEIVING, assigned, frozen, is_integer, is_name, is_value, read_integer
from rerunrein.errors import BadEvent, BadRecord, BadRecordLine, UnknownProcess
from rerunrein.processes import processes_by_name

# What stands behind the first word of an event in recorded form.
SHAPES = {
    "set": ("variable", "value"),
    "send": ("process", "value"),
    "receive": ("process", "variable", "value"),
    "take": ("process", "variable", "value"),
    "input": ("variable", "value"),
    "checkpoint": (),
}


class Record:
    """The events of each process of a run."""

    def __init__(self, rows):
        """The rows are pairs (name, events)."""
        kept = frozen(list(rows))
        check_rows(kept)
        check_events(kept)
        self.rows = kept
        self.histories = {name: events for name, events in kept}
        # The pairs (send, receive or take) of all messages that are received.
        self.messages = matched_messages(kept)
        check_order(self.histories, self.messages)
        self.partners = partners_by_event(self.messages)

    def names(self):
        """The names of the processes."""
        return tuple([name for name, events in self.rows])

    def events(self, name):
        """The events of a process in recorded form."""
        if name not in self.names():
            raise UnknownProcess(name)
        return self.histories[name]

    def length(self, name):
        """The number of the events of a process."""
        return len(self.events(name))

    def variables(self, name):
        """The variables in the events of a process."""
        changes = [assigned(event) for event in self.events(name)]
        return tuple(sorted({change[0] for change in changes if change is not None}))

    def state(self, name, number):
        """The pairs (variable, integer) of a process right behind its event of this number."""
        events = self.events(name)
        if not is_integer(number) or not 0 <= number <= len(events):
            raise BadEvent((name, number))
        memory = {variable: 0 for variable in self.variables(name)}
        for event in events[:number]:
            change = assigned(event)
            if change is not None:
                memory[change[0]] = change[1]
        return tuple(memory.items())

    def partner(self, event):
        """The event at the other end of the message that an event sends or receives, or None."""
        known = event_of(self, event)
        if known is None:
            raise BadEvent(event)
        return self.partners.get(known)

    def __eq__(self, other):
        return isinstance(other, Record) and self.rows == other.rows


def event_of(record, thing):
    """The event of the record that the thing is, as a tuple, or None if it is none."""
    if not isinstance(thing, (tuple, list)) or len(thing) != 2:
        return None
    name, number = thing
    if name not in record.names() or not is_integer(number):
        return None
    return (name, number) if 1 <= number <= record.length(name) else None


def check_rows(rows):
    """Raises an error if the rows are not pairs of different names and of events."""
    names = []
    for index, row in enumerate(rows):
        if index == MOST_PROCESSES or not is_row(row) or row[0] in names:
            raise BadRecord("row", None, index)
        names.append(row[0])
    if not rows:
        raise BadRecord("row", None, 0)


def is_row(row):
    """Whether the row is a pair of a name and a tuple."""
    return isinstance(row, tuple) and len(row) == 2 and is_name(row[0]) and isinstance(row[1], tuple)


def check_events(rows):
    """Raises an error if an event has no recorded form."""
    names = [name for name, events in rows]
    for name, events in rows:
        others = [other for other in names if other != name]
        for number, event in enumerate(events, start=1):
            if not has_shape(event, others):
                raise BadRecord("event", name, number)


def has_shape(event, others):
    """Whether the event has a recorded form and names only these processes."""
    if not isinstance(event, tuple) or not event or not isinstance(event[0], str):
        return False
    if event[0] not in SHAPES or len(event) != len(SHAPES[event[0]]) + 1:
        return False
    return all([fits_in(kind, part, others) for kind, part in zip(SHAPES[event[0]], event[1:])])


def fits_in(kind, part, others):
    """Whether a part of an event is what has to stand there."""
    if kind == "process":
        return part in others
    if kind == "variable":
        return is_name(part)
    return is_value(part)


def matched_messages(rows):
    """The pairs (send, receive or take) of all messages that are received; raises BadRecord."""
    sends = sends_by_channel(rows)
    pairs = []
    received = {}
    for name, events in rows:
        for number, event in enumerate(events, start=1):
            if event[0] not in RECEIVING:
                continue
            channel = (event[1], name)
            place = received.get(channel, 0)
            received[channel] = place + 1
            sent = sends.get(channel, ())
            if place >= len(sent) or sent[place][1] != event[3]:
                raise BadRecord("message", name, number)
            pairs.append((sent[place][0], (name, number)))
    return tuple(pairs)


def sends_by_channel(rows):
    """The dict of the pairs (send event, integer) by sender and receiver, in their order."""
    sends = {}
    for name, events in rows:
        for number, event in enumerate(events, start=1):
            if event[0] == "send":
                sends.setdefault((name, event[1]), []).append(((name, number), event[2]))
    return sends


def partners_by_event(messages):
    """The dict of the other event of each event in pairs."""
    partners = {}
    for one, other in messages:
        partners[one] = other
        partners[other] = one
    return partners


def check_order(histories, messages):
    """Raises an error if some events cannot be executed."""
    executed = numbers_reached(histories, execution(histories, causes_by_event(messages)))
    for name, events in histories.items():
        if executed[name] < len(events):
            raise BadRecord("order", name, executed[name] + 1)


def causes_by_event(pairs):
    """The dict of the lists of the first events in pairs by the second events."""
    causes = {}
    for one, other in pairs:
        causes.setdefault(other, []).append(one)
    return causes


def execution(histories, causes):
    """The list of the events in an order in which they can be executed, as far as they can.

    An event can be executed behind the event ahead of it in its process and behind its causes.
    """
    executed = {name: 0 for name in histories}
    found = []
    before = -1
    while len(found) > before:
        before = len(found)
        for name, events in histories.items():
            number = executed[name] + 1
            while number <= len(events) and not lacking(causes.get((name, number), ()), executed):
                found.append((name, number))
                executed[name] = number
                number += 1
    return found


def lacking(events, executed):
    """The list of those events whose numbers are beyond those that their processes executed."""
    return [(name, number) for name, number in events if number > executed[name]]


def numbers_reached(histories, events):
    """The dict of the numbers of the events by process, of events of which none is left out."""
    executed = {name: 0 for name in histories}
    for name, number in events:
        executed[name] = number
    return executed


def event_line(event):
    """The line of an event in recorded form."""
    if event[0] in RECEIVING:
        return f"{event[0]} {event[2]} {event[3]} from {event[1]}"
    return " ".join([str(part) for part in event])


def record_lines(record):
    """The lines of a record."""
    lines = []
    for name in record.names():
        lines.append(f"process {name}")
        lines.extend([event_line(event) for event in record.events(name)])
    return lines


def read_record(lines):
    """The record that the lines are."""
    entries = [read_entry(line) for line in lines]
    for at, entry in enumerate(entries):
        if entry is None:
            raise BadRecordLine(at)
    if not entries or entries[0][0] != "process":
        raise BadRecordLine(0)
    rows = []
    for entry in entries:
        if entry[0] == "process":
            rows.append((entry[1], []))
        else:
            rows[-1][1].append(entry)
    return Record(rows)


def read_entry(line):
    """The event in recorded form, or ("process", name), that a line is; None if it is neither."""
    words = line.split(" ")
    word = words[0]
    if word == "checkpoint" and len(words) == 1:
        return (word,)
    if len(words) < 2 or not is_name(words[1]):
        return None
    if word == "process" and len(words) == 2:
        return (word, words[1])
    value = read_integer(words[2]) if len(words) > 2 else None
    if value is None:
        return None
    if word in ("set", "send", "input") and len(words) == 3:
        return (word, words[1], value)
    if word in RECEIVING and len(words) == 5 and words[3] == "from" and is_name(words[4]):
        return (word, words[4], words[1], value)
    return None


def first_departure(program, inputs, record):
    """The first recorded event that a process does not do by itself, or None."""
    processes = processes_by_name(program, inputs)
    for name in record.names():
        if name not in processes:
            raise UnknownProcess(name)
    for name in record.names():
        for number, event in enumerate(record.events(name), start=1):
            if not does(processes[name], event):
                return (name, number)
            processes[name].execute(event)
    return None


def does(process, event):
    """Whether the next event of a process can be this one in recorded form."""
    if process.statement() is None:
        return False
    sender = message = None
    if event[0] in RECEIVING:
        sender = event[1]
        message = event[3]
    return process.form(sender, message) == event
