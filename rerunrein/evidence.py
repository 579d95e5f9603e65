"""Evidence that every replay passes a bad state: whether things are such evidence."""

from rerunrein.common import is_integer
from rerunrein.locks import all_sections


def shows_end(conditions, line):
    """Whether the thing is the number of a bound line that the end of the record breaks."""
    if not is_integer(line) or not 0 <= line < len(conditions.rules):
        return False
    rule = conditions.rules[line]
    if rule[0] != "bound":
        return False
    sends = conditions.sends_between(rule[1], rule[2])
    return len([send for send in sends if conditions.recorded.partner(send) is None]) > rule[3]


def shows_ring(conditions, pairs, steps):
    """Whether the thing is a ring of these required pairs."""
    if not isinstance(steps, tuple) or not steps or not all([step in pairs for step in steps]):
        return False
    order = conditions.order
    for (line, one, other), (later_line, later, last) in zip(steps, steps[1:] + steps[:1]):
        if other != later and not order.ahead(other, later):
            return False
    return True


def shows_sections(conditions, forcing, chain):
    """Whether the thing is a chain of sections that are forced ahead of one another."""
    sections = all_sections(conditions)
    spans = [span for span, writing in sections]
    if not isinstance(chain, tuple) or len(chain) < 2 or not all([span in spans for span in chain]):
        return False
    if (chain[0], True) not in sections:
        return False
    return all([one != other and forcing.forces(one, other) for one, other in zip(chain, chain[1:] + chain[:1])])


def shows_overlap(conditions, forcing, gaps):
    """Whether the thing is a gap of each process with an either condition, each forced ahead of the others."""
    if not isinstance(gaps, tuple) or not gaps or len(gaps) != len(conditions.choosers):
        return False
    for name, gap in zip(conditions.choosers, gaps):
        if gap not in [(name, first, last) for first, last in conditions.gaps(name)]:
            return False
    return all([one == other or forcing.forces(one, other) for one in gaps for other in gaps])
