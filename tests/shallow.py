"""Calls that may not call deep."""

import sys

FEW = 60


def calls_so_far():
    frame = sys._getframe()
    count = 0
    while frame is not None:
        frame = frame.f_back
        count += 1
    return count


def with_few_calls(function, *passed):
    """What the function returns; a RecursionError if it needs many calls within one another."""
    before = sys.getrecursionlimit()
    sys.setrecursionlimit(calls_so_far() + FEW)
    try:
        return function(*passed)
    finally:
        sys.setrecursionlimit(before)
