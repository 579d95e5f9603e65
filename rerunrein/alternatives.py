"""The alternative: how processes can take turns so that a condition of one always holds, or why they cannot."""

from rerunrein.forcing import entry_of, exit_of
from rerunrein.ways import way_to, ways_from


def alternative_plan(conditions, forcing):
    """A pair (gaps, pairs): the gaps of an evidence or None, and pairs of events that keep gaps apart."""
    record = conditions.recorded
    turns = [turn for name in conditions.choosers for turn in turns_of(conditions, name)]
    following = {turn: [other for other in turns if can_take_over(record, forcing, turn, other)] for turn in turns}
    reached = ways_from([turn for turn in turns if entry_of(turn) is None], following)
    last = [turn for turn in reached if exit_of(record, turn) is None]
    if last:
        # The pairs of a shortest way never go round.
        return (None, handed_over(record, way_to(reached, last[0])))
    # A turn that is not reached cannot begin before the end of one that is. So the gaps where the
    # processes cannot get on are forced ahead of one another.
    return (tuple([gap_behind(conditions, reached, name) for name in conditions.choosers]), [])


def turns_of(conditions, name):
    """The spans between the gaps of a process: the longest runs of states in which a condition holds."""
    found = []
    first = 0
    end = conditions.recorded.length(name) + 1
    for begin, last in conditions.gaps(name) + [(end, end)]:
        if first < begin:
            found.append((name, first, begin - 1))
        first = last + 1
    return found


def can_take_over(record, forcing, turn, other):
    """Whether another turn, of another process, can begin before this one ends."""
    end = exit_of(record, turn)
    begin = entry_of(other)
    if end is None or begin is None or turn[0] == other[0]:
        return False
    return not forcing.ahead(end, begin)


def handed_over(record, turns):
    """The pairs of events that let each turn end behind the beginning of the next one."""
    return [(entry_of(later), exit_of(record, turn)) for turn, later in zip(turns, turns[1:])]


def gap_behind(conditions, reached, name):
    """The gap of a process behind its last turn that is reached; the first gap if none is."""
    ends = dict(conditions.gaps(name))
    first = max([turn[2] + 1 for turn in reached if turn[0] == name], default=0)
    return (name, first, ends[first])
