"""Two worlds of a pattern: alike, or told apart by how many maps of a third world go into them."""

from mapwright.allmaps import many_maps
from mapwright.maps import is_apart, is_map, is_onto
from mapwright.parts import drawn, part_world
from mapwright.pieces import pieces
from mapwright.seeds import seed
from mapwright.shapes import same_shape
from mapwright.worlds import is_world, spots, things


def alike(pattern, one, other):
    """("alike", map), or ("unlike", world, here, there)."""
    for kind in range(pattern.kinds()):
        # Of a kind's seed as many maps go into a world as this has things of the kind.
        if one[0][kind] != other[0][kind]:
            return ("unlike", seed(pattern, kind), one[0][kind], other[0][kind])
    goals = {}
    left = []
    more = piece_worlds(pattern, other)
    for piece in piece_worlds(pattern, one):
        found = first_alike(pattern, piece, more)
        if found is None:
            left.append(piece[0])
        else:
            goals.update(goals_between(piece, more.pop(found[0]), found[1]))
    if left:
        return told_apart(pattern, one, other, left + [piece[0] for piece in more])
    return ("alike", map_of_goals(one, goals))


def piece_worlds(pattern, world):
    """The pieces of a world, each as a world with the map in."""
    return [part_world(pattern, world, piece) for piece in pieces(pattern, world)]


def first_alike(pattern, piece, more):
    """The place of the first piece of some that is like this one, with a map that shows it, or None."""
    for place, other in enumerate(more):
        some = same_shape(pattern, piece[0], other[0])
        if some is not None:
            return (place, some)
    return None


def goals_between(piece, other, some):
    """For each thing (kind, thing) of a piece the thing of the other piece to which a map leads it."""
    goals = {}
    for kind, row in enumerate(some):
        for thing, goal in zip(piece[1][kind], row):
            goals[(kind, thing)] = other[1][kind][goal]
    return goals


def map_of_goals(world, goals):
    """The map that leads each thing of a world as a dict tells."""
    rows = []
    for kind, size in enumerate(world[0]):
        rows.append(tuple([goals[(kind, thing)] for thing in range(size)]))
    return tuple(rows)


def told_apart(pattern, one, other, left):
    """A world of which unlike many maps go into two worlds, of which these pieces are left without one alike."""
    # A greatest piece that is left goes apart into no other one that is left. So if all worlds that come of it by
    # drawing things together had as many maps into both, it would go apart into both as often, and this it doesn't.
    greatest = max(left, key=things)
    ahead = [greatest]
    seen = {greatest: True}
    while True:
        world = ahead.pop(0)
        here = many_maps(pattern, world, one)
        there = many_maps(pattern, world, other)
        if here != there:
            return ("unlike", world, here, there)
        for fresh in drawn_worlds(pattern, world):
            if fresh not in seen:
                seen[fresh] = True
                ahead.append(fresh)


def drawn_worlds(pattern, world):
    """The worlds that come of a world by drawing two things together."""
    told = []
    for kind, first in spots(world):
        for second in range(first + 1, world[0][kind]):
            told.append(drawn(pattern, world, [(kind, first, second)])[0])
    return told


def shows(pattern, one, other, paper):
    """Whether a paper of one of the two forms shows what it tells."""
    if paper[0] == "alike":
        some = paper[1]
        return is_map(pattern, one, other, some) and is_apart(some) and is_onto(other, some)
    world = paper[1]
    if not is_world(pattern, world) or paper[2] == paper[3]:
        return False
    return many_maps(pattern, world, one) == paper[2] and many_maps(pattern, world, other) == paper[3]
