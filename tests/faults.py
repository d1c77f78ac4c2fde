"""Looking at the errors that a call raises."""

from textloops.errors import LoopError


def fault(function, *rest, **more):
    """The name and the fields of the error that the call raises; None if it raises none."""
    try:
        function(*rest, **more)
    except LoopError as error:
        return (type(error).__name__, *vars(error).values())
    return None
