"""Orders: which events of a record are ahead of others, and which states replays can pass."""

from rerunrein.common import RECEIVING, frozen, is_integer
from rerunrein.errors import BadCut, BadEvent, BadWait, NotLive, TooMany
from rerunrein.records import causes_by_event, event_of, execution, lacking, numbers_reached


class Order:
    """The order of a record with waits."""

    def __init__(self, record, waits=()):
        self.recorded = record
        self.passed = checked_waits(record, waits)
        # The events that an event must follow directly, those of its own process left out.
        self.causes = causes_by_event(record.messages + self.passed)
        self.sequence = execution(record.histories, self.causes)
        executed = numbers_reached(record.histories, self.sequence)
        stuck = [name for name in record.names() if executed[name] < record.length(name)]
        if stuck:
            raise NotLive(ring_of(stuck[0], executed, self.causes, self.passed))
        self.places = {name: at for at, name in enumerate(record.names())}
        # The least cut with each event.
        self.clocks = clocks_of(self.sequence, self.causes, self.places)

    def ahead(self, one, other):
        """Whether one event is ahead of the other."""
        first = checked_event(self.recorded, one)
        second = checked_event(self.recorded, other)
        return first != second and self.clocks[second][self.places[first[0]]] >= first[1]

    def is_cut(self, cut):
        """Whether the thing is a cut."""
        if not isinstance(cut, tuple) or len(cut) != len(self.places):
            return False
        for name, number in zip(self.recorded.names(), cut):
            if not is_integer(number) or not 0 <= number <= self.recorded.length(name):
                return False
        last = [(name, number) for name, number in zip(self.recorded.names(), cut) if number > 0]
        return all([joined(cut, self.clocks[event]) == cut for event in last])

    def least_cut(self, events):
        """The least cut with all these events."""
        cut = tuple([0 for name in self.places])
        for event in events:
            cut = joined(cut, self.clocks[checked_event(self.recorded, event)])
        return cut

    def waits(self):
        """The waits."""
        return self.passed


def checked_event(record, thing):
    """The event that the thing is; raises BadEvent."""
    event = event_of(record, thing)
    if event is None:
        raise BadEvent(thing)
    return event


def checked_waits(record, waits):
    """The waits as tuples; raises BadWait."""
    kept = frozen(list(waits))
    for index, wait in enumerate(kept):
        if not is_wait(record, wait):
            raise BadWait(index)
    return kept


def is_wait(record, wait):
    """Whether the wait is a pair of two events of different processes."""
    if not isinstance(wait, tuple) or len(wait) != 2:
        return False
    one, other = wait
    if event_of(record, one) is None or event_of(record, other) is None:
        return False
    return one[0] != other[0]


def ring_of(name, executed, causes, waits):
    """A ring of waits that a process which cannot go on is caught in or waits for."""
    # Each process that is stuck lacks an event of another one that is stuck. Going from the one
    # to the other comes back at last to one where this has been: there the ring is closed.
    heads = []
    reasons = []
    head = (name, executed[name] + 1)
    while head not in heads:
        heads.append(head)
        cause = lacking(causes[head], executed)[0]
        reasons.append((cause, head))
        head = (cause[0], executed[cause[0]] + 1)
    around = reasons[heads.index(head):]
    return tuple([pair for pair in around[::-1] if pair in waits])


def clocks_of(sequence, causes, places):
    """The dict of the least cuts by event, of all events in an order in which they can be executed."""
    clocks = {}
    for name, number in sequence:
        clock = clocks.get((name, number - 1), tuple([0 for other in places]))
        for cause in causes.get((name, number), ()):
            clock = joined(clock, clocks[cause])
        at = places[name]
        clocks[(name, number)] = clock[:at] + (number,) + clock[at + 1:]
    return clocks


def joined(one, other):
    """The least tuple of integers that is nowhere below one of these two."""
    return tuple([max(left, right) for left, right in zip(one, other)])


def least_cut_within(order, cut, spans):
    """The least cut from a cut on in which each process is in one of its spans, or None.

    The spans of a process are pairs (first, last) of numbers of states, in ascending order.
    """
    while True:
        higher = cut
        for name, at in order.places.items():
            number = number_within(spans[at], cut[at])
            if number is None:
                return None
            if number > cut[at]:
                higher = joined(higher, order.clocks[(name, number)])
        if higher == cut:
            return cut
        cut = higher


def number_within(spans, least):
    """The least number from this one on that is in one of the spans, or None."""
    for first, last in spans:
        if last >= least:
            return max(first, least)
    return None


def under_way(record, cut):
    """The tuples (sender, receiver, integers) of the messages that are under way in a cut."""
    taken = frozen(cut)
    if not Order(record).is_cut(taken):
        raise BadCut(cut)
    histories = [(name, record.events(name)[:number]) for name, number in zip(record.names(), taken)]
    found = []
    for sender, sent in histories:
        for receiver, received in histories:
            integers = values_under_way(sender, sent, receiver, received)
            if integers:
                found.append((sender, receiver, integers))
    return found


def values_under_way(sender, sent, receiver, received):
    """The integers that are under way between two processes that executed these events."""
    integers = [event[2] for event in sent if event[0] == "send" and event[1] == receiver]
    arrived = [event for event in received if event[0] in RECEIVING and event[1] == sender]
    return tuple(integers[len(arrived):])


def count_cuts(order, *, most=20000):
    """The number of cuts."""
    return counted(order, most)[0]


def count_replays(order, *, most=20000):
    """The number of replays."""
    return counted(order, most)[1]


def counted(order, most):
    """The number of cuts and the number of replays; raises TooMany."""
    conditions = conditions_by_place(order)
    # The cuts with the same number of events, and in how many ways replays get to each of them.
    layer = {order.least_cut(()): 1}
    cuts = 0
    while True:
        following = {}
        for cut, ways in layer.items():
            cuts += 1
            if cuts > most:
                raise TooMany(most)
            for later in next_cuts(conditions, cut):
                following[later] = following.get(later, 0) + ways
        if not following:
            # Under live waits all replays get to the one cut with all events.
            return (cuts, sum(list(layer.values())))
        layer = following


def conditions_by_place(order):
    """For each process the list of what each event must follow, as pairs (place, number)."""
    found = []
    for name in order.recorded.names():
        needs = []
        for number in range(1, order.recorded.length(name) + 1):
            causes = order.causes.get((name, number), ())
            needs.append([(order.places[other], least) for other, least in causes])
        found.append(needs)
    return found


def next_cuts(conditions, cut):
    """The cuts with one event more."""
    found = []
    for at, needs in enumerate(conditions):
        number = cut[at]
        if number < len(needs) and all([cut[other] >= least for other, least in needs[number]]):
            found.append(cut[:at] + (number + 1,) + cut[at + 1:])
    return found


def any_replay(order):
    """The events of one replay."""
    return list(order.sequence)
