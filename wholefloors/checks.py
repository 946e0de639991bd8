"""What is asked of integers, kinds and radii before anything is worked out."""

from wholefloors.errors import InvalidKind, InvalidRadius

KINDS = (2, 3, 5)


def is_integer(told):
    """True if told is an integer, never a bool."""
    return isinstance(told, int) and not isinstance(told, bool)


def is_whole(told):
    """True if told is a pair of integers."""
    return isinstance(told, tuple) and len(told) == 2 and is_integer(told[0]) and is_integer(told[1])


def is_kind(told):
    """True if told is 2, 3 or 5."""
    return is_integer(told) and told in KINDS


def check_kind(kind):
    """Raise InvalidKind unless kind is one."""
    if not is_kind(kind):
        raise InvalidKind(kind)


def check_radius(radius):
    """Raise InvalidRadius unless radius is an integer from 0 on."""
    if not is_integer(radius) or radius < 0:
        raise InvalidRadius(radius)
