"""The world of all maps of a world into another one, and maps of products as maps into it."""

from mapwright.allmaps import some_maps
from mapwright.joins import paired, product
from mapwright.maps import then
from mapwright.seeds import map_at, seed, ways_by_ends
from mapwright.worlds import numbered

MOST_THINGS = 60


def power(pattern, one, other):
    """The world of all maps of the one into the other, and for each kind the maps that are its things."""
    rows = tuple([maps_of_kind(pattern, kind, one, other) for kind in range(pattern.kinds())])
    acts = []
    for doing, ends in enumerate(pattern.doings()):
        ahead = beside(pattern, seed(pattern, ends[1]), one, ahead_of(pattern, doing))
        numbers = numbered(rows[ends[1]])
        acts.append(tuple([numbers[then(ahead, some)] for some in rows[ends[0]]]))
    sizes = tuple([len(row) for row in rows])
    return ((sizes, tuple(acts)), rows)


def maps_of_kind(pattern, kind, one, other):
    """The maps of the product of a kind's seed and the one into the other."""
    return tuple(some_maps(pattern, product(pattern, seed(pattern, kind), one)[0], other, MOST_THINGS))


def ahead_of(pattern, doing):
    """The map between seeds that takes a way to what first the doing and then the way comes to."""
    ends = pattern.doings()[doing]
    place = ways_by_ends(pattern, ends[0])[ends[1]].index(doing)
    return map_at(pattern, seed(pattern, ends[0]), ends[1], place)


def beside(pattern, more, one, some):
    """The map of the product of a further world and the one that leads the first of each pair by a map."""
    told = product(pattern, more, one)
    return paired(one, then(told[1], some), told[2])


def asked(pattern, one, other):
    """The map of the product of the world of all maps and the one that tells where a map takes a thing."""
    rows = []
    for kind, kept in enumerate(power(pattern, one, other)[1]):
        row = []
        for some in kept:
            # Staying is the first way of its kind, so the pairs with it come first.
            row.extend(some[kind][:one[0][kind]])
        rows.append(tuple(row))
    return tuple(rows)


def carried(pattern, more, one, other, some):
    """The map of the further world into the world of all maps that a map of its product with the one comes to."""
    rows = []
    for kind, kept in enumerate(power(pattern, one, other)[1]):
        numbers = numbered(kept)
        told = [map_from(pattern, more, one, some, kind, thing) for thing in range(more[0][kind])]
        rows.append(tuple([numbers[found] for found in told]))
    return tuple(rows)


def map_from(pattern, more, one, some, kind, thing):
    """What is left of a map of the product of the further world and the one, seen from one thing of the former."""
    return then(beside(pattern, seed(pattern, kind), one, map_at(pattern, more, kind, thing)), some)


def brought(pattern, more, one, other, some):
    """The map of the product of the further world and the one that a map into the world of all maps comes from."""
    told = asked(pattern, one, other)
    return then(beside(pattern, more, one, some), told)
