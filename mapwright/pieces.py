"""Pieces: the least parts of a world that no doing binds to anything else."""

from mapwright.parts import as_part
from mapwright.worlds import spots


def pieces(pattern, world):
    """The pieces of a world, in the order of their first things."""
    links = all_links(pattern, world)
    seen = {}
    told = []
    for spot in links:
        if spot not in seen:
            piece = linked(links, spot)
            seen.update(piece)
            told.append(as_part(world, piece))
    return told


def all_links(pattern, world):
    """For each thing (kind, thing), in order, those to which a doing leads it and those led to it."""
    links = {}
    for spot in spots(world):
        links[spot] = []
    for act, ends in zip(world[1], pattern.doings()):
        for thing, goal in enumerate(act):
            links[(ends[0], thing)].append((ends[1], goal))
            links[(ends[1], goal)].append((ends[0], thing))
    return links


def linked(links, start):
    """A dict of all things that hang together with a thing."""
    found = {start: True}
    ahead = [start]
    while ahead:
        here = ahead.pop()
        for spot in links[here]:
            if spot not in found:
                found[spot] = True
                ahead.append(spot)
    return found
