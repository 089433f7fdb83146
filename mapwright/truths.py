"""The world of truths, and the parts of a world, which are its maps into the truths."""

from mapwright.errors import TooMany
from mapwright.parts import as_part
from mapwright.seeds import seed, ways_by_ends
from mapwright.worlds import led, numbered, reached, spots

MOST_PARTS = 500


def truths(pattern):
    """The world of truths, and for each kind the crowds that are its things."""
    rows = tuple([crowds(pattern, kind) for kind in range(pattern.kinds())])
    acts = []
    for doing, ends in enumerate(pattern.doings()):
        numbers = numbered(rows[ends[1]])
        acts.append(tuple([numbers[crowd_behind(pattern, doing, crowd)] for crowd in rows[ends[0]]]))
    sizes = tuple([len(row) for row in rows])
    return ((sizes, tuple(acts)), rows)


def crowds(pattern, kind):
    """The crowds of a kind, in their order."""
    # They are the parts of the kind's seed, and at most 33, so that none is refused.
    parts = all_parts(pattern, seed(pattern, kind))
    return tuple(sorted([crowd_of(pattern, kind, part) for part in parts]))


def crowd_of(pattern, kind, part):
    """The ways that a part of a kind's seed has, rising."""
    ways = []
    for row, places in zip(ways_by_ends(pattern, kind), part):
        ways.extend([row[place] for place in places])
    return tuple(sorted(ways))


def crowd_behind(pattern, doing, crowd):
    """The crowd of all ways for which first the doing and then the way comes to one of the crowd."""
    goal = pattern.doings()[doing][1]
    return tuple([way for way in pattern.ways(goal) if pattern.behind(doing, way) in crowd])


def character(pattern, world, part):
    """The map into the truths that leads each thing to the crowd of all ways that lead it into the part."""
    rows = []
    for kind, told in enumerate(truths(pattern)[1]):
        numbers = numbered(told)
        found = [crowd_at(pattern, world, part, kind, thing) for thing in range(world[0][kind])]
        rows.append(tuple([numbers[crowd] for crowd in found]))
    return tuple(rows)


def crowd_at(pattern, world, part, kind, thing):
    """The crowd of all ways that lead a thing into a part."""
    return tuple([way for way in pattern.ways(kind) if led(world, thing, way) in part[pattern.end(kind, way)]])


def part_by(pattern, world, some):
    """The part of which a map into the truths is the character."""
    rows = []
    for kind, told in enumerate(truths(pattern)[1]):
        whole = told.index(tuple(pattern.ways(kind)))
        rows.append(tuple([thing for thing in range(world[0][kind]) if some[kind][thing] == whole]))
    return tuple(rows)


def all_parts(pattern, world):
    """All parts of a world, in their order."""
    # Each part is what lies in one at least of the least parts of its things.
    found = {least_part(pattern, world, []): True}
    for spot in spots(world):
        least = least_part(pattern, world, [spot])
        for part in list(found):
            found[any_of(part, least)] = True
        if len(found) > MOST_PARTS:
            raise TooMany("there are more than 500 parts")
    return sorted(found)


def least_part(pattern, world, some):
    """The least part with some things, told as tuples (kind, thing)."""
    members = {}
    for spot in some:
        for below in reached(pattern, world, spot):
            members[below] = True
    return as_part(world, members)


def both(one, other):
    """The part of what lies in both parts."""
    return tuple([tuple(sorted(set(row) & set(more))) for row, more in zip(one, other)])


def any_of(one, other):
    """The part of what lies in one of two parts at least."""
    return tuple([tuple(sorted(set(row) | set(more))) for row, more in zip(one, other)])


def leads(pattern, world, one, other):
    """The greatest part of which nothing lies in the one but what lies in the other, too."""
    members = {}
    for spot in spots(world):
        inside = [below for below in reached(pattern, world, spot) if lies_in(below, one)]
        if all([lies_in(below, other) for below in inside]):
            members[spot] = True
    return as_part(world, members)


def lies_in(spot, part):
    """Whether a thing (kind, thing) lies in a part."""
    return spot[1] in part[spot[0]]


def lacks(pattern, world, part):
    """The greatest part of which nothing lies in the part."""
    return leads(pattern, world, part, least_part(pattern, world, []))
