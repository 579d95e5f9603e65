"""What calls raise."""

from rerunrein.errors import RerunError


def raised(function, *passed, **named):
    """The name of the error that a call raises, and its fields; fails if there is none."""
    try:
        result = function(*passed, **named)
    except RerunError as error:
        return (type(error).__name__, *vars(error).values())
    raise AssertionError(f"no error, but {result!r}")
