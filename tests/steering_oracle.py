"""What [39] to [43] say of steering, by going through all cuts, and by the words for evidence.

Nothing here uses the package. Rules are those of tests.condition_oracle.
"""

from tests.condition_oracle import slow_broken, slow_gaps, slow_sections
from tests.record_oracle import closure, receives, sends, slow_cuts


def slow_required(rows, rules):
    found = []
    for line, rule in enumerate(rules):
        if rule[0] == "order":
            found.append((line, rule[1:3], rule[3:]))
        if rule[0] == "bound":
            sent = [event for event, value in sends(rows, rule[1], rule[2])]
            received = [event for event, value in receives(rows, rule[1], rule[2])]
            for i in range(1, len(sent) + 1):
                if i + rule[3] <= len(sent) and i <= len(received):
                    found.append((line, received[i - 1], sent[i + rule[3] - 1]))
    return found


class Look:
    """A slow look at a record and conditions on it."""

    def __init__(self, rows, rules):
        self.rows = rows
        self.rules = rules
        self.names = [name for name, events in rows]
        self.lengths = {name: len(events) for name, events in rows}
        self.broken = {cut: slow_broken(rows, rules, cut) for cut in slow_cuts(rows)}
        self.pairs = slow_required(rows, rules)
        self.ahead = closure(rows)
        self.forced_ahead = closure(rows, [(one, other) for line, one, other in self.pairs])
        self.sections = {
            (name, first, last): writing for name in self.names for first, last, writing in slow_sections(rows, rules, name)
        }
        self.choosers = [name for name in self.names if any(rule[:2] == ("either", name) for rule in rules)]
        self.gaps = {name: [(name, *gap) for gap in slow_gaps(rows, rules, name)] for name in self.choosers}

    def good_cuts(self):
        """The cuts to which some replay gets through good states alone."""
        first = tuple(0 for name in self.names)
        reached = {first} if self.broken[first] is None else set()
        queue = list(reached)
        while queue:
            cut = queue.pop()
            for at in range(len(cut)):
                later = cut[:at] + (cut[at] + 1,) + cut[at + 1:]
                if later in self.broken and self.broken[later] is None and later not in reached:
                    reached.add(later)
                    queue.append(later)
        return reached

    def can_be_good(self):
        return tuple(self.lengths[name] for name in self.names) in self.good_cuts()

    def is_live(self, waits):
        ahead = closure(self.rows, waits)
        return not any(event in ahead[event] for event in ahead)

    def bad_cuts(self, waits):
        return [cut for cut in slow_cuts(self.rows, waits) if self.broken[cut] is not None]

    def is_wait(self, wait):
        return all(event in self.ahead for event in wait) and len(wait) == 2 and wait[0][0] != wait[1][0]

    def is_steering(self, waits, reasons):
        """The words of [40] on tuples of waits and of cuts."""
        if not all(map(self.is_wait, waits)) or len(set(waits)) != len(waits) or len(waits) != len(reasons):
            return False
        if not self.is_live(waits) or self.bad_cuts(waits):
            return False
        return all(reason in self.bad_cuts(waits[:at] + waits[at + 1:]) for at, reason in enumerate(reasons))

    def forces(self, one, other):
        if one[1] == 0 or other[2] == self.lengths[other[0]]:
            return True
        return (one[0], one[1]) in self.forced_ahead[other[0], other[2] + 1]

    def is_evidence(self, kind, shown):
        """The words of [40] on evidence whose parts are of the right kinds."""
        if kind == "end":
            rule = self.rules[shown] if 0 <= shown < len(self.rules) else ("none",)
            if rule[0] != "bound":
                return False
            left = len(sends(self.rows, rule[1], rule[2])) - len(receives(self.rows, rule[1], rule[2]))
            return left > rule[3]
        around = list(zip(shown, shown[1:] + shown[:1]))
        if kind == "ring":
            if not shown or not all(step in self.pairs for step in shown):
                return False
            return all(one[2] == other[1] or one[2] in self.ahead[other[1]] for one, other in around)
        if kind == "sections":
            if len(shown) < 2 or not all(section in self.sections for section in shown) or not self.sections[shown[0]]:
                return False
            return all(one != other and self.forces(one, other) for one, other in around)
        if [gap[0] for gap in shown] != self.choosers or not shown:
            return False
        if not all(gap in self.gaps[gap[0]] for gap in shown):
            return False
        return all(self.forces(one, other) for one in shown for other in shown if one != other)

    def is_good_replay(self, replay):
        """Whether a list of events is a replay all of whose states satisfy the conditions."""
        if sorted(replay) != sorted(self.ahead):
            return False
        numbers = dict.fromkeys(self.names, 0)
        cuts = [tuple(numbers.values())]
        for name, number in replay:
            numbers[name] += 1
            if numbers[name] != number:
                return False
            cuts.append(tuple(numbers.values()))
        return all(cut in self.broken and self.broken[cut] is None for cut in cuts)
