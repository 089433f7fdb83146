"""Parts of a world, and things of a world drawn together."""

from mapwright.errors import NoMap
from mapwright.worlds import numbered


def is_part(pattern, world, part):
    """Whether a tuple of tuples of whole numbers is a part of the world."""
    return has_rising(world, part) and stays_within(pattern, world, part)


def has_rising(world, part):
    """Whether there is a row for each kind with numbers of its things, rising."""
    if len(part) != len(world[0]):
        return False
    for row, size in zip(part, world[0]):
        if list(row) != sorted(set(row)):
            return False
        if not all([0 <= thing < size for thing in row]):
            return False
    return True


def stays_within(pattern, world, part):
    """Whether no doing leads out of what is told by rows of things."""
    for act, ends in zip(world[1], pattern.doings()):
        inside = numbered(part[ends[1]])
        if not all([act[thing] in inside for thing in part[ends[0]]]):
            return False
    return True


def as_part(world, members):
    """For each kind the numbers of the things that are members, rising."""
    rows = []
    for kind, size in enumerate(world[0]):
        rows.append(tuple([thing for thing in range(size) if (kind, thing) in members]))
    return tuple(rows)


def part_world(pattern, world, part):
    """A part as a world, its things numbered as they rise, and the map in."""
    acts = []
    for act, ends in zip(world[1], pattern.doings()):
        numbers = numbered(part[ends[1]])
        acts.append(tuple([numbers[act[thing]] for thing in part[ends[0]]]))
    sizes = tuple([len(row) for row in part])
    # The part itself leads each number to the thing that bears it now.
    return ((sizes, tuple(acts)), part)


def equal_part(some, more):
    """The part at which two maps of one world into another agree."""
    return tuple([equal_row(row, other) for row, other in zip(some, more)])


def equal_row(row, other):
    """The places at which two rows have the same."""
    return tuple([place for place, goals in enumerate(zip(row, other)) if goals[0] == goals[1]])


def image(some):
    """The part of all things to which a map leads some."""
    return tuple([tuple(sorted(set(row))) for row in some])


def drawn(pattern, world, pairs):
    """The world in which both of each (kind, thing, thing) are one, and the map onto it."""
    leasts = least_rows(pattern, world, pairs)
    firsts = image(leasts)
    onto = tuple([renamed(row, numbered(first)) for row, first in zip(leasts, firsts)])
    acts = []
    for act, ends in zip(world[1], pattern.doings()):
        # Whichever of the things that are one is asked, the doing leads to one thing.
        acts.append(tuple([onto[ends[1]][act[thing]] for thing in firsts[ends[0]]]))
    sizes = tuple([len(first) for first in firsts])
    return ((sizes, tuple(acts)), onto)


def renamed(row, names):
    """A row with other numbers, as a dict tells them."""
    return tuple([names[thing] for thing in row])


def least_rows(pattern, world, pairs):
    """For each kind a row that tells for each thing the least one that it is drawn together with."""
    rows = [list(range(size)) for size in world[0]]
    ahead = list(pairs)
    while ahead:
        pair = ahead.pop()
        kind = pair[0]
        found = sorted(set([rows[kind][pair[1]], rows[kind][pair[2]]]))
        if len(found) == 2:
            rows[kind] = [found[0] if least == found[1] else least for least in rows[kind]]
            ahead.extend(led_pairs(pattern, world, pair))
    return rows


def led_pairs(pattern, world, pair):
    """The pairs to which doings lead both of a pair (kind, thing, thing)."""
    told = []
    for act, ends in zip(world[1], pattern.doings()):
        if ends[0] == pair[0]:
            told.append((ends[1], act[pair[1]], act[pair[2]]))
    return told


def through(some, more):
    """The one map that first some, an onto map, and then it is more."""
    return tuple([row_through(row, further) for row, further in zip(some, more)])


def row_through(row, further):
    """For each thing of an onto row where the further row leads whatever the onto one leads to it."""
    goals = {}
    for thing, goal in zip(row, further):
        if goals.setdefault(thing, goal) != goal:
            raise NoMap("two things that the onto map leads to one are led apart")
    return tuple([goals[thing] for thing in range(len(goals))])
