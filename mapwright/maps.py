"""Maps of a world into another one: where each thing is led, so that doings go along."""

from mapwright.errors import NoMap
from mapwright.worlds import led


def is_map(pattern, one, other, some):
    """Whether a tuple of tuples of whole numbers is a map of the one world into the other."""
    return has_rows(one, other, some) and first_lack(pattern, one, other, some) is None


def has_rows(one, other, some):
    """Whether there is a row for each kind that leads each thing of the one to a thing of the other."""
    if len(some) != len(one[0]):
        return False
    for row, size, goals in zip(some, one[0], other[0]):
        if len(row) != size:
            return False
        if not all([0 <= goal < goals for goal in row]):
            return False
    return True


def first_lack(pattern, one, other, some):
    """The first doing, and for it the least thing, at which doings don't go along, or None."""
    for doing, ends in enumerate(pattern.doings()):
        here = some[ends[0]]
        there = some[ends[1]]
        for thing, goal in enumerate(one[1][doing]):
            if led(other, here[thing], doing) != there[goal]:
                return (doing, thing)
    return None


def staying(world):
    """The map that leads each thing to itself."""
    return tuple([tuple(range(size)) for size in world[0]])


def then(some, more):
    """First the one map and then the other."""
    return tuple([tuple([behind[goal] for goal in row]) for row, behind in zip(some, more)])


def is_apart(some):
    """Whether unlike things are led to unlike ones."""
    return all([len(set(row)) == len(row) for row in some])


def is_onto(other, some):
    """Whether some thing is led to each thing of the other world."""
    return all([len(set(row)) == size for row, size in zip(some, other[0])])


def turned_back(other, some):
    """The map that leads each thing back."""
    if not (is_apart(some) and is_onto(other, some)):
        raise NoMap("only a map that is both apart and onto leads back")
    return tuple([turned_row(row) for row in some])


def turned_row(row):
    """A row in which each number stands once, told the other way about."""
    back = list(row)
    for thing, goal in enumerate(row):
        back[goal] = thing
    return tuple(back)
