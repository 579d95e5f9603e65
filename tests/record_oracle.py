"""What [22] to [24] and [27] to [30] say of records, orders and cuts, by going through everything."""

import itertools

from tests.oracle import is_name


# Records.

def is_integer(thing):
    return type(thing) is int


def has_form(event, name, names):
    if type(event) not in (tuple, list) or not event:
        return False
    word, *rest = event
    partners = [other for other in names if other != name]
    if word == "checkpoint":
        return rest == []
    if word not in ("set", "send", "receive", "take", "input") or type(word) is not str:
        return False
    if not rest or not is_integer(rest[-1]) or len(str(abs(rest[-1]))) > 30:
        return False
    if word in ("set", "input"):
        return len(rest) == 2 and type(rest[0]) is str and is_name(rest[0])
    if word == "send":
        return len(rest) == 2 and rest[0] in partners
    return len(rest) == 3 and rest[0] in partners and type(rest[1]) is str and is_name(rest[1])


def row_is_bad(rows, at):
    row = rows[at]
    if at == 40 or type(row) not in (tuple, list) or len(row) != 2:
        return True
    name, events = row
    if type(name) is not str or not is_name(name) or type(events) not in (tuple, list):
        return True
    return name in [earlier[0] for earlier in rows[:at]]


def sends(rows, sender, receiver):
    """The sends of one process to another, as pairs of an event and its integer."""
    return [
        ((name, number), event[2]) for name, events in rows for number, event in enumerate(events, 1)
        if name == sender and event[0] == "send" and event[1] == receiver
    ]


def receives(rows, sender, receiver):
    return [
        ((name, number), event[3]) for name, events in rows for number, event in enumerate(events, 1)
        if name == receiver and event[0] in ("receive", "take") and event[1] == sender
    ]


def slow_messages(rows):
    """The pairs of a send and the event that receives its message."""
    names = [name for name, events in rows]
    found = []
    for sender in names:
        for receiver in names:
            ends = zip(sends(rows, sender, receiver), receives(rows, sender, receiver))
            found += [(one, other) for (one, value), (other, same) in ends]
    return found


def all_events(rows):
    return [(name, number) for name, events in rows for number in range(1, len(events) + 1)]


def closure(rows, waits=()):
    """The dict of the sets of events that are ahead of each event."""
    events = all_events(rows)
    ahead = {event: {(name, number) for name, number in events if name == event[0] and number < event[1]} for event in events}
    for one, other in [*slow_messages(rows), *waits]:
        ahead[other].add(one)
    # Warshall's way.
    for middle in events:
        for event in events:
            if middle in ahead[event]:
                ahead[event] |= ahead[middle]
    return ahead


def record_error(rows):
    """The fields of BadRecord, or None."""
    for at in range(len(rows)):
        if row_is_bad(rows, at):
            return ("row", None, at)
    if not rows:
        return ("row", None, 0)
    names = [name for name, events in rows]
    for name, events in rows:
        for number, event in enumerate(events, 1):
            if not has_form(event, name, names):
                return ("event", name, number)
    for name, events in rows:
        for number, event in enumerate(events, 1):
            if event[0] in ("receive", "take"):
                place = [one for one, value in receives(rows, event[1], name)].index((name, number))
                sent = [value for one, value in sends(rows, event[1], name)]
                if place >= len(sent) or sent[place] != event[3]:
                    return ("message", name, number)
    ahead = closure(rows)
    on_rings = {event for event in ahead if event in ahead[event]}
    for event in all_events(rows):
        if event in on_rings or ahead[event] & on_rings:
            return ("order", *event)
    return None


def slow_state(events, number):
    memory = {}
    for at, event in enumerate(events, 1):
        if event[0] in ("set", "input", "receive", "take"):
            memory.setdefault(event[-2], 0)
            if at <= number:
                memory[event[-2]] = event[-1]
    return tuple(sorted(memory.items()))


# Orders.

def slow_cuts(rows, waits=()):
    """The list of all cuts."""
    ahead = closure(rows, waits)
    found = []
    for cut in itertools.product(*[range(len(events) + 1) for name, events in rows]):
        executed = {(name, number) for (name, events), last in zip(rows, cut) for number in range(1, last + 1)}
        if all(ahead[event] <= executed for event in executed):
            found.append(cut)
    return found


def slow_replays(rows, waits=()):
    """The list of all replays, of a small record."""
    ahead = closure(rows, waits)
    replays = [()]
    for repetition in ahead:
        replays = [
            (*replay, event) for replay in replays for event in ahead
            if event not in replay and ahead[event] <= set(replay)
        ]
    return replays


def is_ring(rows, waits, ring):
    """Whether this is a ring of these waits as [27] describes it."""
    ahead = closure(rows)
    if type(ring) is not tuple or not ring or not all(wait in waits for wait in ring):
        return False
    return all(
        one[1] == other[0] or one[1] in ahead[other[0]] for one, other in zip(ring, ring[1:] + ring[:1])
    )


def slow_under_way(rows, cut):
    """What is under way in a cut, message by message."""
    executed = [(name, events[:last]) for (name, events), last in zip(rows, cut)]
    found = []
    for sender, sent in executed:
        for receiver, received in executed:
            channel = [event[2] for event in sent if event[:2] == ("send", receiver)]
            for event in received:
                if event[0] in ("receive", "take") and event[1] == sender:
                    assert channel.pop(0) == event[3]
            if channel:
                found.append((sender, receiver, tuple(channel)))
    return found


# Random records.

def some_rows(random, processes, count):
    """The rows of a run in which the processes do what they like, with about so many events."""
    names = random.sample(["a", "b", "c", "d", "e", "zz", "x", "pq"], processes)
    rows = {name: [] for name in names}
    channels = {}
    for repetition in range(count):
        name = random.choice(names)
        filled = [other for other in names if channels.get((other, name))]
        choice = random.randrange(8)
        if choice < 3 and processes > 1:
            other = random.choice([one for one in names if one != name])
            channels.setdefault((name, other), []).append(random.randrange(-2, 3))
            rows[name].append(("send", other, channels[name, other][-1]))
        elif choice < 6 and filled:
            sender = random.choice(filled)
            rows[name].append((random.choice(("receive", "take")), sender, random.choice("xyz"), channels[sender, name].pop(0)))
        elif choice == 6:
            rows[name].append(random.choice((("set", "x", 1), ("input", "y", -7), ("set", "z", 4))))
        elif choice == 7:
            rows[name].append(("checkpoint",))
    return [(name, tuple(events)) for name, events in rows.items()]


def mixed_rows(random, processes, count):
    """Rows in which the events of each process stand in any order, so that some runs cannot be."""
    rows = [(name, list(events)) for name, events in some_rows(random, processes, count)]
    for name, events in rows:
        if random.randrange(2):
            random.shuffle(events)
    rows = [(name, tuple(events)) for name, events in rows]
    # The integers are those that were sent, in the new order.
    integers = {other: dict(all_sent(rows))[one] for one, other in slow_messages(rows)}
    return [
        (name, tuple((*event[:3], integers[name, number]) if (name, number) in integers else event
                     for number, event in enumerate(events, 1)))
        for name, events in rows
    ]


def all_sent(rows):
    return [((name, number), event[2]) for name, events in rows for number, event in enumerate(events, 1) if event[0] == "send"]


def some_waits(random, rows, count):
    """Waits between any events of different processes."""
    events = all_events(rows)
    pairs = [(one, other) for one in events for other in events if one[0] != other[0]]
    return tuple(random.choice(pairs) for repetition in range(count)) if pairs else ()
