"""Checkpoints: to which state processes can return after a failure, and which checkpoints never help."""

from rerunrein.common import frozen, is_plain
from rerunrein.errors import BadCut, BadEvent, UnknownProcess
from rerunrein.orders import Order, least_cut_within
from rerunrein.records import event_of
from rerunrein.ways import way_to, ways_from


def recovery_line(record, cut, failed):
    """The greatest cut to which the processes can return if some fail in the state of a cut."""
    order = Order(record)
    taken = frozen(cut)
    if not order.is_cut(taken):
        raise BadCut(cut)
    failing = list(failed)
    for name in failing:
        if name not in record.names():
            raise UnknownProcess(name)
    choices = []
    for name, number in zip(record.names(), taken):
        stay = [] if name in failing else [number]
        choices.append([0] + [one for one in checkpoint_numbers(record, name) if one <= number] + stay)
    return greatest_cut_of(order, choices)


def checkpoint_numbers(record, name):
    """The numbers of the checkpoint events of a process."""
    return [number for number, event in enumerate(record.events(name), start=1) if event[0] == "checkpoint"]


def greatest_cut_of(order, choices):
    """The greatest cut that has one of its choices for each process, numbers of states from 0 on."""
    line = tuple([max(numbers) for numbers in choices])
    while not order.is_cut(line):
        # What lacks something ahead of it in this line lacks it in all lower ones, too.
        line = tuple([
            max([number for number in numbers if number == 0 or fits_under(order, (name, number), line)])
            for name, numbers in zip(order.recorded.names(), choices)
        ])
    return line


def fits_under(order, event, line):
    """Whether an event and all that is ahead of it are among the executed ones."""
    return all([number <= most for number, most in zip(order.clocks[event], line)])


def useless_checkpoints(record):
    """The checkpoint events that are part of no global checkpoint."""
    order = Order(record)
    spans = [saved_spans(record, name) for name in record.names()]
    found = []
    for name in record.names():
        for number in checkpoint_numbers(record, name):
            # The least global checkpoint with the event; at their ends all processes are in one.
            line = least_cut_within(order, order.clocks[(name, number)], spans)
            if line[order.places[name]] > number:
                found.append((name, number))
    return found


def saved_spans(record, name):
    """The states of a process in which it can be in a global checkpoint, as pairs (state, state)."""
    return [(number, number) for number in [0] + checkpoint_numbers(record, name) + [record.length(name)]]


def zigzag(record, event):
    """A zigzag of a checkpoint event, or None."""
    start = checked_checkpoint(record, event)
    sends = received_sends(record)
    intervals = intervals_by_event(record)
    following = {}
    for send in sends:
        following[send] = [other for other in sends if may_follow(intervals, record.partners[send], other)]
    before = ways_from([send for send in sends if is_later(send, start)], following)
    for send in before:
        if is_later(start, record.partners[send]):
            return way_to(before, send)
    return None


def is_zigzag(record, event, thing):
    """Whether the thing is a zigzag of a checkpoint event."""
    start = checked_checkpoint(record, event)
    if not is_plain(thing) or not isinstance(thing, tuple) or len(thing) < 2:
        return False
    if not all([is_received_send(record, part) for part in thing]):
        return False
    intervals = intervals_by_event(record)
    receipts = [record.partners[send] for send in thing]
    if not is_later(thing[0], start) or not is_later(start, receipts[-1]):
        return False
    return all([may_follow(intervals, receipt, send) for receipt, send in zip(receipts, thing[1:])])


def checked_checkpoint(record, thing):
    """The checkpoint event that the thing is; raises BadEvent."""
    event = event_of(record, thing)
    if event is None or record.events(event[0])[event[1] - 1] != ("checkpoint",):
        raise BadEvent(thing)
    return event


def received_sends(record):
    """The list of the sends whose messages are received, in the order of the record."""
    found = []
    for name in record.names():
        for number, event in enumerate(record.events(name), start=1):
            if event[0] == "send" and (name, number) in record.partners:
                found.append((name, number))
    return found


def is_received_send(record, thing):
    """Whether the thing is a send event whose message is received."""
    event = event_of(record, thing)
    if event is None or record.events(event[0])[event[1] - 1][0] != "send":
        return False
    return event in record.partners


def intervals_by_event(record):
    """The dict of the intervals of all events: how many checkpoint events of the process are ahead."""
    intervals = {}
    for name in record.names():
        interval = 0
        for number, event in enumerate(record.events(name), start=1):
            intervals[(name, number)] = interval
            if event[0] == "checkpoint":
                interval += 1
    return intervals


def is_later(one, other):
    """Whether one event is a later one of the same process than the other."""
    return one[0] == other[0] and one[1] > other[1]


def may_follow(intervals, receipt, send):
    """Whether a zigzag may go on with a send behind a message that is received here."""
    return send[0] == receipt[0] and intervals[send] >= intervals[receipt]
