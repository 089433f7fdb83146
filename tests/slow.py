"""Searches that take what the document says word by word, however long they need, and small worlds to search in."""

import itertools

from mapwright.worlds import is_world
from tests.samples import made


def rows_between(one, other):
    """All tuples of rows that lead each thing of the one world to a thing of the other, in their order."""
    rows = [itertools.product(range(goals), repeat=size) for size, goals in zip(one[0], other[0])]
    return itertools.product(*rows)


def slow_lacks(sample, one, other, some):
    """All (doing, thing) at which doings don't go along, by doings, then things."""
    lacks = []
    for doing, (start, goal) in enumerate(sample[1]):
        for thing in range(one[0][start]):
            if other[1][doing][some[start][thing]] != some[goal][one[1][doing][thing]]:
                lacks.append((doing, thing))
    return lacks


def slow_maps(sample, one, other):
    """All maps, in their order."""
    return [some for some in rows_between(one, other) if not slow_lacks(sample, one, other, some)]


def worlds_of(sample, sizes):
    """All worlds of a sample's pattern with these sizes."""
    pattern = made(sample)
    acts = [itertools.product(range(sizes[goal]), repeat=sizes[start]) for start, goal in sample[1]]
    worlds = [(tuple(sizes), some) for some in itertools.product(*acts)]
    return [world for world in worlds if is_world(pattern, world)]


def small_worlds(sample, most=2):
    """All worlds of a sample's pattern with at most so many things of a kind."""
    worlds = []
    for sizes in itertools.product(range(most + 1), repeat=sample[0]):
        worlds.extend(worlds_of(sample, sizes))
    return worlds


def slow_parts(sample, world):
    """All parts, in their order."""
    rows = []
    for size in world[0]:
        rows.append([row for many in range(size + 1) for row in itertools.combinations(range(size), many)])
    return sorted([part for part in itertools.product(*rows) if not leads_out(sample, world, part)])


def leads_out(sample, world, part):
    """Whether a doing leads a thing of the rows to one that they don't have."""
    for doing, (start, goal) in enumerate(sample[1]):
        for thing in part[start]:
            if world[1][doing][thing] not in part[goal]:
                return True
    return False


def some_pairs(sample, most=2, limit=400):
    """Pairs of small worlds: all of them, or some from all over where there are more than the limit."""
    worlds = small_worlds(sample, most)
    pairs = list(itertools.product(worlds, repeat=2))
    return pairs[::max(1, len(pairs) // limit)]
