"""What [36] to [38] say of conditions, by going through all states.

A rule is what a line says: ("order", P, N, Q, M), ("bound", P, Q, N), ("hold", P, node) and likewise
"write" and "either". Nothing here uses the package.
"""

from tests.oracle import Failure, value, write_condition
from tests.record_oracle import slow_state, slow_under_way

# Conditions of one variable or two that change from state to state, with their nodes.
X, Y, Z = ("variable", "x"), ("variable", "y"), ("variable", "z")


def number(integer):
    return ("number", integer) if integer >= 0 else ("negate", ("number", -integer))


NODES = (
    ("=", X, number(1)), ("=", X, number(0)), ("!=", X, number(0)), (">", Y, number(0)), ("=", Y, X), ("<", Z, number(1)),
    ("and", ("=", X, number(1)), ("=", Y, number(0))), ("or", ("=", X, number(1)), ("=", Y, number(1))),
    ("not", ("=", Z, number(1))), ("=", ("//", number(1), X), number(1)), ("=", ("mod", number(3), Y), number(1)),
)
ALWAYS, NEVER, FAILING = ("=", number(0), number(0)), ("=", number(0), number(1)), ("=", ("//", number(1), number(0)), Y)


def events_of(rows, name):
    return dict(rows)[name]


def slow_holds(node, events, at):
    try:
        return value(node, dict(slow_state(events, at)))
    except Failure:
        return False


def states_where(rows, name, test):
    """The longest runs (first, last) of the states of a process that pass a test, found from every two states."""
    states = range(len(events_of(rows, name)) + 1)
    good = [test(at) for at in states]
    return [
        (first, last) for first in states for last in states
        if first <= last and all(good[first:last + 1])
        and (first == 0 or not good[first - 1]) and (last == len(states) - 1 or not good[last + 1])
    ]


def conditions_of(rules, word, name):
    return [rule[2] for rule in rules if rule[:2] == (word, name)]


def slow_sections(rows, rules, name):
    events = events_of(rows, name)
    hold, write = conditions_of(rules, "hold", name), conditions_of(rules, "write", name)
    runs = states_where(rows, name, lambda at: any(slow_holds(node, events, at) for node in hold))
    return [
        (first, last, any(slow_holds(node, events, at) for node in write for at in range(first, last + 1)))
        for first, last in runs
    ]


def slow_gaps(rows, rules, name):
    events = events_of(rows, name)
    nodes = conditions_of(rules, "either", name)
    return states_where(rows, name, lambda at: not any(slow_holds(node, events, at) for node in nodes))


def slow_broken(rows, rules, cut):
    numbers = dict(zip([name for name, events in rows], cut))
    for line, rule in enumerate(rules):
        if rule[0] == "order" and numbers[rule[3]] >= rule[4] and not numbers[rule[1]] >= rule[2]:
            return ("order", line)
        if rule[0] == "bound":
            for sender, receiver, values in slow_under_way(rows, cut):
                if (sender, receiver) == rule[1:3] and len(values) > rule[3]:
                    return ("bound", line)
    inside = {
        name: section for name, events in rows for section in slow_sections(rows, rules, name)
        if section[0] <= numbers[name] <= section[1]
    }
    names = [name for name, events in rows]
    for at, one in enumerate(names):
        for other in names[at + 1:]:
            if one in inside and other in inside and (inside[one][2] or inside[other][2]):
                return ("lock", one, other)
    either = [rule for rule in rules if rule[0] == "either"]
    if either and not any(slow_holds(node, events_of(rows, name), numbers[name]) for word, name, node in either):
        return ("either",)
    return None


# Random records and conditions.

def toggling_rows(random, processes, count):
    """The rows of a run in which variables change often, with about so many events."""
    names = random.sample(["a", "b", "c", "d", "e", "zz", "x", "pq"], processes)
    rows = {name: [] for name in names}
    channels = {}
    for repetition in range(count):
        name = random.choice(names)
        filled = [other for other in names if channels.get((other, name))]
        choice = random.randrange(7)
        if choice < 2 and processes > 1:
            other = random.choice([one for one in names if one != name])
            channels.setdefault((name, other), []).append(random.randrange(2))
            rows[name].append(("send", other, channels[name, other][-1]))
        elif choice < 4 and filled:
            sender = random.choice(filled)
            word = random.choice(("receive", "take"))
            rows[name].append((word, sender, random.choice("xyz"), channels[sender, name].pop(0)))
        elif choice < 6:
            rows[name].append((random.choice(("set", "set", "input")), random.choice("xxyz"), random.randrange(2)))
        else:
            rows[name].append(("checkpoint",))
    return [(name, tuple(events)) for name, events in rows.items()]


def busy_rows(random, processes, count):
    """The rows of a run in which x changes with almost every event, and some messages keep an order."""
    names = random.sample(["a", "b", "c", "d", "e", "zz", "x", "pq"], processes)
    rows = {name: [] for name in names}
    channels = {}
    for repetition in range(count):
        name = random.choice(names)
        filled = [other for other in names if channels.get((other, name))]
        last = [event[-1] for event in rows[name] if event[-2:-1] == ("x",)][-1:] or [0]
        choice = random.randrange(8)
        if choice < 2 and processes > 1:
            other = random.choice([one for one in names if one != name])
            channels.setdefault((name, other), []).append(random.randrange(2))
            rows[name].append(("send", other, channels[name, other][-1]))
        elif choice < 4 and filled:
            sender = random.choice(filled)
            rows[name].append(("take", sender, random.choice("xy"), channels[sender, name].pop(0)))
        else:
            rows[name].append(("set", "x", 1 - last[0]))
    return [(name, tuple(events)) for name, events in rows.items()]


def busy_rules(random, rows):
    """Conditions of the kind lock or either about x, which exclude a lot, and some others."""
    names = [name for name, events in rows]
    if random.randrange(2):
        rules = [("hold", name, ("=", X, number(random.choice((0, 1, 1, 1))))) for name in names]
        rules += [("write", name, random.choice((ALWAYS, ALWAYS, ("=", Y, number(1))))) for name in names if random.randrange(2)]
    else:
        rules = [("either", name, ("=", X, number(random.choice((0, 0, 1))))) for name in names]
    rules += some_orders(random, rows, random.choice((0, 0, 1))) + some_bounds(random, names, random.choice((0, 0, 0, 1)))
    random.shuffle(rules)
    return rules


def some_node(random):
    return random.choice(NODES * 3 + (ALWAYS, NEVER, FAILING))


def some_lock(random, names):
    """A hold line for most processes and a write line for some, in any order."""
    rules = [("hold", name, some_node(random)) for name in names if random.randrange(5)]
    rules += [("write", name, some_node(random)) for name in names if random.randrange(2)]
    random.shuffle(rules)
    return rules


def some_alternative(random, names):
    """One either line or several of some processes."""
    chosen = random.sample(names, random.randrange(1, len(names) + 1))
    rules = [("either", name, some_node(random)) for name in chosen for line in range(random.choice((1, 1, 2)))]
    random.shuffle(rules)
    return rules


def some_orders(random, rows, count):
    """Order lines; most of them say what happened in some run."""
    events = [(name, at) for name, done in rows for at in range(1, len(done) + 1)]
    rules = []
    for repetition in range(count if len(events) > 1 else 0):
        one, other = random.sample(events, 2)
        if random.randrange(4):
            one, other = sorted((one, other), key=lambda event: event[1])
        rules.append(("order", *one, *other))
    return rules


def some_bounds(random, names, count):
    """Bound lines of different channels."""
    channels = [(one, other) for one in names for other in names if one != other]
    return [
        ("bound", *channel, random.choice((0, 1, 1, 1, 2, 2, 3)))
        for channel in random.sample(channels, min(count, len(channels)))
    ]


def some_rules(random, rows):
    """Conditions of each kind or of mixed kinds."""
    names = [name for name, events in rows]
    rules = random.choice((
        lambda: [], lambda: some_lock(random, names), lambda: some_lock(random, names), lambda: some_alternative(random, names),
        lambda: some_alternative(random, names),
    ))()
    rules += some_orders(random, rows, random.choice((0, 0, 0, 1, 2)))
    rules += some_bounds(random, names, random.choice((0, 0, 0, 1, 2)))
    random.shuffle(rules)
    return rules


def line_of(rule):
    if rule[0] in ("order", "bound"):
        return " ".join(map(str, rule))
    return f"{rule[0]} {rule[1]} {write_condition(rule[2])}"


def lines_of(rules):
    return [line_of(rule) for rule in rules]
