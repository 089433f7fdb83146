"""Pieces: the least parts of a world that no doing binds to anything else."""

from mapwright.links import all_linked
from mapwright.parts import as_part
from mapwright.worlds import spots


def pieces(pattern, world):
    """The pieces of a world, in the order of their first things."""
    return [as_part(world, piece) for piece in all_linked(all_links(pattern, world))]


def all_links(pattern, world):
    """For each thing (kind, thing), in order, those to which a doing leads it and those led to it."""
    links = {}
    for spot in spots(world):
        links[spot] = []
    for act, ends in zip(world[1], pattern.doings()):
        for thing, goal in enumerate(act):
            links[(ends[0], thing)].append((ends[1], goal))
            links[(ends[1], goal)].append((ends[0], thing))
    return links
