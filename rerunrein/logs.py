"""Logs: which takes a log has to name, and runs that keep to a log."""

from rerunrein.common import RECEIVING
from rerunrein.errors import BadEvent
from rerunrein.machine import Machine, options_of
from rerunrein.orders import Order
from rerunrein.records import event_of, sends_by_channel


def needed_takes(record):
    """The take events that a log has to name."""
    order = Order(record)
    sends = sends_by_channel(record.rows)
    return [event for event in takes_of(record) if rival_of(order, sends, event) is not None]


def other_sender(record, event):
    """A cut in which a take can take from another sender, and this sender; None if it is not needed."""
    take = checked_take(record, event)
    order = Order(record)
    rival = rival_of(order, sends_by_channel(record.rows), take)
    if rival is None:
        return None
    earlier = [(take[0], take[1] - 1)] if take[1] > 1 else []
    return (order.least_cut(earlier + [rival]), rival[0])


def takes_of(record):
    """The list of all take events of a record."""
    found = []
    for name in record.names():
        for number, event in enumerate(record.events(name), start=1):
            if event[0] == "take":
                found.append((name, number))
    return found


def checked_take(record, thing):
    """The take event that the thing is; raises BadEvent."""
    event = event_of(record, thing)
    if event is None or recorded_form(record, event)[0] != "take":
        raise BadEvent(thing)
    return event


def recorded_form(record, event):
    """The recorded form of an event."""
    return record.events(event[0])[event[1] - 1]


def rival_of(order, sends, take):
    """The send whose message a take could have taken in place of its own, or None.

    The sends are those of sends_by_channel; of several possible senders the first one counts.
    """
    name, number = take
    events = order.recorded.events(name)
    received = messages_by_sender(events[:number - 1])
    for other in order.recorded.names():
        waiting = sends.get((other, name), ())[received.get(other, 0):]
        if other != events[number - 1][1] and waiting and not order.ahead(take, waiting[0][0]):
            return waiting[0][0]
    return None


def messages_by_sender(events):
    """The dict of the numbers of messages that events in recorded form receive, by sender."""
    received = {}
    for event in events:
        if event[0] in RECEIVING:
            received[event[1]] = received.get(event[1], 0) + 1
    return received


def rerun(program, inputs, record, log, choices):
    """The record of a run that keeps to a log and to the numbers of the recorded events."""
    machine = Machine(program, inputs)
    senders = senders_by_take(record, log)
    for choice in choices:
        options = options_by_log(machine, record, senders)
        if not options:
            break
        name, sender = options[choice % len(options)]
        machine.step(name, sender=sender)
    return machine.record()


def senders_by_take(record, log):
    """The dict of the recorded senders of the take events of a log; raises BadEvent."""
    takes = [checked_take(record, thing) for thing in log]
    return {take: recorded_form(record, take)[1] for take in takes}


def options_by_log(machine, record, senders):
    """The steps (name, sender) that a machine can make now without leaving the log and the numbers."""
    found = []
    for name, sender in options_of(machine):
        number = len(machine.histories[name]) + 1
        if name not in record.names() or number > record.length(name):
            continue
        # Only a take has a sender among its options: whatever else stands there is free.
        if sender is None or sender == senders.get((name, number), sender):
            found.append((name, sender))
    return found
