"""The required order of conditions, and which runs of states it forces ahead of others.

A span is (name, first, last): a run of neighbouring states of a process, such as a section or a gap.
"""

from rerunrein.orders import any_replay, joined
from rerunrein.records import causes_by_event


class Forcing:
    """The order of a record in which the first event of each pair is ahead of the second one, too.

    Unlike under the waits of an Order, events may come to be ahead of themselves.
    """

    def __init__(self, order, pairs):
        """The order is that of the record without waits."""
        self.recorded = order.recorded
        self.places = order.places
        # For each event the numbers of the events of each process that are ahead of it.
        self.pasts = pasts_of(order, pairs)

    def ahead(self, one, other):
        """Whether one event is ahead of the other."""
        return self.pasts[other][self.places[one[0]]] >= one[1]

    def forces(self, one, other):
        """Whether the one span is forced ahead of the other."""
        begin = entry_of(one)
        end = exit_of(self.recorded, other)
        return begin is None or end is None or self.ahead(begin, end)


def entry_of(span):
    """The event that leads into the first state of a span; None if that is the beginning."""
    name, first, last = span
    return (name, first) if first > 0 else None


def exit_of(record, span):
    """The event that leads out of the last state of a span; None if that is the end."""
    name, first, last = span
    return (name, last + 1) if last < record.length(name) else None


def pasts_of(order, pairs):
    """The dict of the numbers of the events of each process that are ahead of an event."""
    causes = causes_by_event(order.recorded.messages + tuple(pairs))
    events = any_replay(order)
    pasts = {event: order.least_cut(()) for event in events}
    before = None
    # Pairs may go round, so that one pass is not enough.
    while pasts != before:
        before = {event: pasts[event] for event in events}
        for event in events:
            for cause in direct_causes(causes, event):
                pasts[event] = joined(pasts[event], joined(pasts[cause], order.clocks[cause]))
    return pasts


def direct_causes(causes, event):
    """The list of the events that an event must follow directly, the one of its own process included."""
    name, number = event
    own = [(name, number - 1)] if number > 1 else []
    return own + causes.get(event, [])
