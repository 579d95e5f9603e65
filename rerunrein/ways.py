"""Shortest ways from entry to entry."""


def ways_from(starts, following):
    """The dict of all entries that can be reached, the nearest first, each with the entry ahead of it.

    The starts have None there. Following is the dict of the lists of the entries that follow each one.
    """
    before = {start: None for start in starts}
    queue = list(before)
    while queue:
        entry = queue.pop(0)
        for other in following[entry]:
            if other not in before:
                before[other] = entry
                queue.append(other)
    return before


def way_to(before, last):
    """The tuple of the entries on the way to the last one, of a dict that ways_from returned."""
    way = [last]
    while before[way[-1]] is not None:
        way.append(before[way[-1]])
    return tuple(way[::-1])
