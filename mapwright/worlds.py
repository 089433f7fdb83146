"""Worlds of a pattern: how many things there are of each kind, and where doings lead them."""

from mapwright.patterns import STAYING, meeting_pairs


def is_world(pattern, world):
    """Whether two tuples are a world of the pattern."""
    return has_sizes(pattern, world) and has_acts(pattern, world) and keeps_table(pattern, world)


def has_sizes(pattern, world):
    """Whether there is a number from 0 on for each kind."""
    sizes = world[0]
    return len(sizes) == pattern.kinds() and all([size >= 0 for size in sizes])


def has_acts(pattern, world):
    """Whether there is an act for each doing that leads things of the one kind to things of the other."""
    sizes = world[0]
    acts = world[1]
    doings = pattern.doings()
    if len(acts) != len(doings):
        return False
    for act, ends in zip(acts, doings):
        if len(act) != sizes[ends[0]]:
            return False
        if not all([0 <= thing < sizes[ends[1]] for thing in act]):
            return False
    return True


def keeps_table(pattern, world):
    """Whether two doings lead each thing where the way leads it that both come to."""
    for one, other in meeting_pairs(pattern.doings()):
        both = pattern.behind(one, other)
        for thing, between in enumerate(world[1][one]):
            if led(world, between, other) != led(world, thing, both):
                return False
    return True


def led(world, thing, way):
    """The thing to which a way leads a thing of the kind from which it is."""
    if way == STAYING:
        return thing
    return world[1][way][thing]


def things(world):
    """How many things there are of all kinds."""
    return sum(world[0])


def spots(world):
    """All things as tuples (kind, thing), by kinds, then numbers."""
    told = []
    for kind, size in enumerate(world[0]):
        told.extend([(kind, thing) for thing in range(size)])
    return told


def reached(pattern, world, spot):
    """For each way from a thing the thing to which it leads, as tuples (kind, thing)."""
    kind = spot[0]
    return [(pattern.end(kind, way), led(world, spot[1], way)) for way in pattern.ways(kind)]


def numbered(row):
    """A dict that tells for each that stands in a row at which place."""
    numbers = {}
    for number, some in enumerate(row):
        numbers[some] = number
    return numbers


def renumbered(pattern, world, orders):
    """The world in which thing i of a kind is called what stands at place i of the kind's order."""
    acts = []
    for act, ends in zip(world[1], pattern.doings()):
        acts.append(renumbered_act(act, orders[ends[0]], orders[ends[1]]))
    return (world[0], tuple(acts))


def renumbered_act(act, here, there):
    """An act between renumbered kinds, here the order of the kind from which it is, there of the other."""
    fresh = list(act)
    for thing, goal in enumerate(act):
        fresh[here[thing]] = there[goal]
    return tuple(fresh)
