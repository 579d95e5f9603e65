"""Steering: waits that make every replay safe, or evidence that there are none."""

from rerunrein.alternatives import alternative_plan
from rerunrein.common import is_plain
from rerunrein.errors import BadWait, NotLive
from rerunrein.evidence import shows_end, shows_overlap, shows_ring, shows_sections
from rerunrein.forcing import Forcing, entry_of
from rerunrein.locks import all_sections, lock_plan
from rerunrein.orders import Order, any_replay, joined, least_cut_within


def required(conditions):
    """The tuples (line, event, event) of all pairs of events that the order and bound lines require."""
    found = []
    for line, rule in enumerate(conditions.rules):
        if rule[0] == "order":
            found.append((line, rule[1:3], rule[3:]))
        elif rule[0] == "bound":
            sends = conditions.sends_between(rule[1], rule[2])
            for send, later in zip(sends, sends[rule[3]:]):
                receipt = conditions.recorded.partner(send)
                if receipt is not None:
                    found.append((line, receipt, later))
    return found


def steer(conditions):
    """Waits with their reasons, or evidence."""
    evidence, waits = plan_of(conditions)
    if evidence is not None:
        return ("never", evidence)
    # Waits that follow from the others are quickly told, so they are left out first.
    kept = without_implied(Order(conditions.recorded, waits))
    reasons = {}
    for wait in list(kept):
        others = [other for other in kept if other != wait]
        reasons[wait] = bad_cut(conditions, others)
        if reasons[wait] is None:
            kept = others
    return ("waits", tuple(kept), tuple([reasons[wait] for wait in kept]))


def plan_of(conditions):
    """A pair (evidence, waits): the evidence or None, and waits that make every replay safe."""
    pairs = required(conditions)
    evidence = end_evidence(conditions) or ring_evidence(conditions, pairs)
    if evidence is not None:
        return (evidence, [])
    forcing = Forcing(conditions.order, [(one, other) for line, one, other in pairs])
    chain, apart = lock_plan(conditions, forcing)
    if chain is not None:
        return (("sections", chain), [])
    gaps, turns = alternative_plan(conditions, forcing) if conditions.choosers else (None, [])
    if gaps is not None:
        return (("overlap", gaps), [])
    return (None, waits_among(pairs) + apart + turns)


def waits_among(pairs):
    """The waits that required pairs are; within a process there are none."""
    return [(one, other) for line, one, other in pairs if one[0] != other[0]]


def end_evidence(conditions):
    """An evidence of the kind "end", or None."""
    for line in range(len(conditions.rules)):
        if shows_end(conditions, line):
            return ("end", line)
    return None


def ring_evidence(conditions, pairs):
    """An evidence of the kind "ring", or None."""
    for pair in pairs:
        if pair[1][0] == pair[2][0] and pair[1][1] > pair[2][1]:
            return ("ring", (pair,))
    try:
        Order(conditions.recorded, waits_among(pairs))
    except NotLive as failure:
        return ("ring", tuple([pair_of(pairs, wait) for wait in failure.ring]))
    return None


def pair_of(pairs, wait):
    """The first required pair that is this wait."""
    return [pair for pair in pairs if pair[1:] == wait][0]


def without_implied(order):
    """The different waits of an order that do not follow from the record and the other waits."""
    found = []
    for wait in order.waits():
        if wait not in found and not is_implied(order, wait):
            found.append(wait)
    return found


def is_implied(order, wait):
    """Whether a wait follows from the record and other waits."""
    one, other = wait
    if order.recorded.partner(other) == one:
        return True
    causes = [cause for cause in order.causes[other] if cause != one]
    if other[1] > 1:
        causes.append((other[0], other[1] - 1))
    at = order.places[one[0]]
    return any([order.clocks[cause][at] >= one[1] for cause in causes])


def bad_cut(conditions, waits):
    """A cut under the waits that does not satisfy the conditions, or None."""
    order = Order(conditions.recorded, waits)
    cut = unordered_cut(conditions, order)
    if cut is None:
        cut = locked_cut(conditions, order)
    if cut is None:
        cut = gaping_cut(conditions, order)
    return cut


def unordered_cut(conditions, order):
    """A cut that breaks an order or bound line, or None."""
    for rule in conditions.rules:
        later = []
        if rule[0] == "order":
            later = [rule[3:]]
        elif rule[0] == "bound":
            later = conditions.sends_between(rule[1], rule[2])
        for event in later:
            # If any cut with the event breaks the line, the least one does.
            if conditions.breaks_line(rule, order.clocks[event]):
                return order.clocks[event]
    return None


def locked_cut(conditions, order):
    """A cut that has two processes in sections of which one is writing, or None."""
    entered = []
    for span, writing in all_sections(conditions):
        event = entry_of(span)
        cut = order.least_cut(()) if event is None else order.clocks[event]
        entered.append((order.places[span[0]], span[2], writing, cut))
    for at, (place, last, writing, cut) in enumerate(entered):
        for place_there, last_there, also_writing, cut_there in entered[at + 1:]:
            if place == place_there or not (writing or also_writing):
                continue
            if cut[place_there] <= last_there and cut_there[place] <= last:
                return joined(cut, cut_there)
    return None


def gaping_cut(conditions, order):
    """A cut in which no either condition holds although there are some, or None."""
    if not conditions.choosers:
        return None
    # The one gap of a process without an either condition has all its states.
    spans = [conditions.gaps(name) for name in conditions.recorded.names()]
    return least_cut_within(order, order.least_cut(()), spans)


def good_replay(conditions):
    """The events of a replay all of whose states satisfy the conditions, or None."""
    evidence, waits = plan_of(conditions)
    if evidence is not None:
        return None
    return any_replay(Order(conditions.recorded, waits))


def is_steering(conditions, thing):
    """Whether the thing is waits with their reasons, as steer returns them."""
    if not is_plain(thing) or not isinstance(thing, tuple) or len(thing) != 3 or thing[0] != "waits":
        return False
    word, waits, reasons = thing
    if not isinstance(waits, tuple) or not isinstance(reasons, tuple) or len(waits) != len(reasons):
        return False
    try:
        if bad_cut(conditions, waits) is not None:
            return False
    except (BadWait, NotLive):
        return False
    for at, wait in enumerate(waits):
        others = waits[:at] + waits[at + 1:]
        if wait in others or not Order(conditions.recorded, others).is_cut(reasons[at]):
            return False
    return all([conditions.broken(reason) is not None for reason in reasons])


def is_evidence(conditions, thing):
    """Whether the thing is evidence, as steer returns it."""
    if not is_plain(thing) or not isinstance(thing, tuple) or len(thing) != 2:
        return False
    kind, shown = thing
    if kind == "end":
        return shows_end(conditions, shown)
    if kind == "ring":
        return shows_ring(conditions, required(conditions), shown)
    forcing = Forcing(conditions.order, [(one, other) for line, one, other in required(conditions)])
    if kind == "sections":
        return shows_sections(conditions, forcing, shown)
    return kind == "overlap" and shows_overlap(conditions, forcing, shown)
