"""Which floors tell one another."""

from wholefloors.errors import InvalidFloor
from wholefloors.floors import check_floor, check_floors, check_one_kind
from wholefloors.lines import tellable


def tell_each_other(one, other):
    """True if two floors tell one another, each to some radius."""
    check_floors(one, other)
    return tellable(one, other)[0] == "told" and tellable(other, one)[0] == "told"


def lots(floors):
    """The ascending tuple of the lots of floors that tell one another, each the ascending tuple of their indexes."""
    if not isinstance(floors, tuple):
        raise InvalidFloor(floors)
    for floor in floors:
        check_floor(floor)
    for floor in floors:
        check_one_kind(floors[0], floor)
    found = []
    for at, floor in enumerate(floors):
        # What is told is told on: a lot's first floor stands for all of it.
        together = [lot for lot in found if tell_each_other(floors[lot[0]], floor)]
        if together:
            together[0].append(at)
        else:
            found.append([at])
    return tuple([tuple(lot) for lot in found])
