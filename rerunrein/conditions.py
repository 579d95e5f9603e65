"""Conditions on the states of replays: reading their lines, and which states break them."""

from rerunrein.common import frozen, is_name, is_number
from rerunrein.errors import BadConditions, BadCut, BadText, UnknownProcess
from rerunrein.expressions import holds, parse_condition, written
from rerunrein.orders import Order
from rerunrein.records import event_of, sends_by_channel

LOCK_WORDS = ("hold", "write")


class Conditions:
    """Conditions on the cuts of a record."""

    def __init__(self, record, lines):
        self.recorded = record
        self.rules = checked_rules(record, lines)
        self.order = Order(record)
        self.sends = sends_by_channel(record.rows)
        # The sections and gaps of each process, and the processes that have an either condition.
        self.held = {name: sections_of(record, self.rules, name) for name in record.names()}
        self.missed = {name: gaps_of(record, self.rules, name) for name in record.names()}
        self.choosers = [name for name in record.names() if nodes_of(self.rules, "either", name)]

    def record(self):
        """The record."""
        return self.recorded

    def lines(self):
        """The canonical lines."""
        return [rule_line(rule) for rule in self.rules]

    def check_name(self, name):
        """Raises an error if this is no process."""
        if name not in self.recorded.names():
            raise UnknownProcess(name)

    def sections(self, name):
        """The tuples (first, last, writing) of the sections of a process."""
        self.check_name(name)
        return list(self.held[name])

    def gaps(self, name):
        """The pairs (first, last) of the gaps of a process."""
        self.check_name(name)
        return list(self.missed[name])

    def broken(self, cut):
        """What a cut breaks first, or None."""
        taken = frozen(cut)
        if not self.order.is_cut(taken):
            raise BadCut(cut)
        for line, rule in enumerate(self.rules):
            if self.breaks_line(rule, taken):
                return (rule[0], line)
        numbers = dict(zip(self.recorded.names(), taken))
        pair = self.in_lock_together(numbers)
        if pair is not None:
            return ("lock",) + pair
        if self.choosers and all([span_at(self.missed[name], numbers[name]) is not None for name in self.choosers]):
            return ("either",)
        return None

    def breaks_line(self, rule, cut):
        """Whether a cut breaks what an order or bound line says; the other lines break together."""
        places = self.order.places
        if rule[0] == "order":
            name, number, other, later = rule[1:]
            return cut[places[other]] >= later and cut[places[name]] < number
        if rule[0] == "bound":
            sender, receiver, most = rule[1:]
            return self.count_under_way(sender, receiver, cut[places[sender]], cut[places[receiver]]) > most
        return False

    def count_under_way(self, sender, receiver, sent, received):
        """The number of messages under way behind so many events of the sender and of the receiver."""
        count = 0
        for send in self.sends_between(sender, receiver):
            receipt = self.recorded.partner(send)
            if send[1] <= sent and (receipt is None or receipt[1] > received):
                count += 1
        return count

    def sends_between(self, sender, receiver):
        """The send events of one process to another."""
        return [event for event, integer in self.sends.get((sender, receiver), ())]

    def in_lock_together(self, numbers):
        """The first two processes in sections of which one is writing, or None."""
        inside = []
        for name in self.recorded.names():
            section = span_at(self.held[name], numbers[name])
            if section is not None:
                inside.append((name, section[2]))
        for at, (name, writing) in enumerate(inside):
            for other, also_writing in inside[at + 1:]:
                if writing or also_writing:
                    return (name, other)
        return None


def span_at(spans, number):
    """The one of the tuples (first, last, ..) that has this state, or None."""
    for span in spans:
        if span[0] <= number <= span[1]:
            return span
    return None


def nodes_of(rules, word, name):
    """The conditions of the lines of a process that begin with this word."""
    return [rule[2] for rule in rules if rule[0] == word and rule[1] == name]


def states_of(record, name):
    """The states of a process, from the beginning on."""
    return [record.state(name, number) for number in range(record.length(name) + 1)]


def sections_of(record, rules, name):
    """The tuples (first, last, writing) of the sections of a process."""
    nodes = nodes_of(rules, "hold", name)
    if not nodes:
        return []
    states = states_of(record, name)
    found = []
    for first, last in runs_of([holds(nodes[0], state) for state in states]):
        writing = [holds(node, state) for node in nodes_of(rules, "write", name) for state in states[first:last + 1]]
        found.append((first, last, any(writing)))
    return found


def gaps_of(record, rules, name):
    """The pairs (first, last) of the gaps of a process."""
    nodes = nodes_of(rules, "either", name)
    if not nodes:
        return [(0, record.length(name))]
    return runs_of([not any([holds(node, state) for node in nodes]) for state in states_of(record, name)])


def runs_of(answers):
    """The pairs (first, last) of the longest runs of True in a list, in ascending order."""
    found = []
    first = 0
    for at, answer in enumerate(answers + [False]):
        if not answer:
            if first < at:
                found.append((first, at - 1))
            first = at + 1
    return found


def rule_line(rule):
    """The canonical line of what a line says."""
    if rule[0] == "order" or rule[0] == "bound":
        return " ".join([str(part) for part in rule])
    return f"{rule[0]} {rule[1]} {written(rule[2])}"


def checked_rules(record, lines):
    """The list of what the lines say, a tuple each that begins with the first word; raises BadConditions."""
    rules = [read_rule(line) for line in lines]
    for line, rule in enumerate(rules):
        if rule is None:
            raise BadConditions(line, "line")
    for line, rule in enumerate(rules):
        if not names_processes(record, rule):
            raise BadConditions(line, "process")
    for line, rule in enumerate(rules):
        if rule[0] == "order" and not names_events(record, rule):
            raise BadConditions(line, "event")
    check_kinds(rules)
    check_repetitions(rules)
    return rules


def read_rule(line):
    """What a line says, or None if it has none of the forms."""
    word, gap, rest = line.partition(" ")
    words = rest.split(" ")
    if word == "order" and len(words) == 4:
        if is_name(words[0]) and is_number(words[1]) and is_name(words[2]) and is_number(words[3]):
            return (word, words[0], int(words[1]), words[2], int(words[3]))
    if word == "bound" and len(words) == 3:
        if is_name(words[0]) and is_name(words[1]) and is_number(words[2]):
            return (word, words[0], words[1], int(words[2]))
    if word in LOCK_WORDS or word == "either":
        return read_named_condition(word, rest)
    return None


def read_named_condition(word, rest):
    """What a hold, write or either line says behind its word, or None."""
    name, gap, text = rest.partition(" ")
    if not is_name(name):
        return None
    try:
        return (word, name, parse_condition(text))
    except BadText:
        return None


def names_processes(record, rule):
    """Whether the names in what a line says are processes, those of a bound different ones."""
    if rule[0] == "order":
        return rule[1] in record.names() and rule[3] in record.names()
    if rule[0] == "bound":
        return rule[1] in record.names() and rule[2] in record.names() and rule[1] != rule[2]
    return rule[1] in record.names()


def names_events(record, rule):
    """Whether an order line has two different events of the record."""
    one = event_of(record, rule[1:3])
    other = event_of(record, rule[3:])
    return one is not None and other is not None and one != other


def check_kinds(rules):
    """Raises an error if there are lines of the lock and of the alternative."""
    locks = [line for line, rule in enumerate(rules) if rule[0] in LOCK_WORDS]
    choices = [line for line, rule in enumerate(rules) if rule[0] == "either"]
    if locks and choices:
        raise BadConditions(max(locks[0], choices[0]), "kind")


def check_repetitions(rules):
    """Raises an error if there is a second line where there may be one only."""
    found = []
    for line, rule in enumerate(rules):
        if rule[0] == "order" or rule[0] == "either":
            continue
        key = rule[:3] if rule[0] == "bound" else rule[:2]
        if key in found:
            raise BadConditions(line, "twice")
        found.append(key)
