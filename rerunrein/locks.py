"""The lock: in which order sections can follow one another, or why they cannot."""

from rerunrein.forcing import entry_of, exit_of
from rerunrein.ways import way_to, ways_from


def all_sections(conditions):
    """The pairs (span, writing) of all sections."""
    found = []
    for name in conditions.recorded.names():
        found.extend([((name, first, last), writing) for first, last, writing in conditions.sections(name)])
    return found


def lock_plan(conditions, forcing):
    """A pair (chain, pairs): the chain of an evidence or None, and pairs of events that keep sections apart."""
    sections = all_sections(conditions)
    spans = [span for span, writing in sections]
    forced = {one: [other for other in spans if other != one and forcing.forces(one, other)] for one in spans}
    # For each section those that come behind it since it is forced ahead of them, also through others.
    behind = {span: ways_from(forced[span], forced) for span in spans}
    for span, writing in sections:
        if writing and span in behind[span]:
            chain = way_to(behind[span], span)
            return (chain[-1:] + chain[:-1], [])
    ranks = {span: rank_of(spans, behind, span) for span in spans}
    return (None, kept_apart(conditions.recorded, sections, ranks))


def rank_of(spans, behind, span):
    """A key that sorts spans: those that are behind one another have the same, else those ahead have a lower."""
    ahead = [at for at, other in enumerate(spans) if other == span or span in behind[other]]
    around = [at for at in ahead if spans[at] == span or spans[at] in behind[span]]
    return (len(ahead), around[0])


def kept_apart(record, sections, ranks):
    """The pairs of events that let each section begin behind those of lower rank that it excludes."""
    pairs = []
    for one, writing in sections:
        for other, also_writing in sections:
            if one[0] != other[0] and (writing or also_writing) and ranks[one] < ranks[other]:
                # Both events are there: what lasts to the end has no lower rank than any other section,
                # what begins with the beginning no higher one.
                pairs.append((exit_of(record, one), entry_of(other)))
    return pairs
