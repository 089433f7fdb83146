"""All maps of a world into another one: told, counted, and the first one.

A map is told by where it leads the heads, things from which ways lead to all others. So each head gives a table of
where it and all that is below it can be led together, and the maps are what these tables tell when put together.
"""

from mapwright.errors import TooMany
from mapwright.tables import folded, unfolded
from mapwright.worlds import reached, spots

MOST_MAPS = 2000
SOME_ROWS = 5000


def maps(pattern, one, other):
    """All maps of the one world into the other, in their order."""
    tables = goal_tables(pattern, one, other)
    # Where there are very many, some of them are found much sooner than all are counted.
    check_many(all_together(folded(tables, times, plus, SOME_ROWS)[1]))
    told = folded(tables, times, plus)
    many = all_together(told[1])
    check_many(many)
    # Where one piece has no map, the others may have more than can be told.
    if many == 0:
        return []
    return sorted([as_map(one, goals) for goals in unfolded(told[0])])


def check_many(many):
    """Refuse more maps than are told."""
    if many > MOST_MAPS:
        raise TooMany("there are more than 2000 maps")


def many_maps(pattern, one, other):
    """How many maps go of the one world into the other."""
    return all_together(folded(goal_tables(pattern, one, other), times, plus)[1])


def first_map(pattern, one, other):
    """The first map of the one world into the other, or None."""
    base = max(other[0]) + 1
    figures = figures_of(one, base)
    shares = folded(ranked(goal_tables(pattern, one, other), figures), plus, lesser)[1]
    if None in shares:
        return None
    rank = sum(shares)
    goals = {}
    for spot, figure in figures.items():
        goals[spot] = rank // figure % base
    return as_map(one, goals)


def heads(pattern, world):
    """Things from which ways lead to all others, but from none to another one of them."""
    told = []
    covered = {}
    for spot in spots(world):
        if spot not in covered:
            below = reached(pattern, world, spot)
            covered.update(dict(zip(below, below)))
            told = [head for head in told if head not in below] + [spot]
    return told


def goal_tables(pattern, one, other):
    """For each head of the one world its table, each row of weight 1."""
    return [goal_table(pattern, one, other, head) for head in heads(pattern, one)]


def goal_table(pattern, one, other, head):
    """The table of where a head and all below it can be led together."""
    below = reached(pattern, one, head)
    rows = {}
    for thing in range(other[0][head[0]]):
        found = [spot[1] for spot in reached(pattern, other, (head[0], thing))]
        goals = dict(zip(below, found))
        # Ways that lead the head to one thing must lead this thing to one, too.
        if [goals[spot] for spot in below] == found:
            rows[tuple(goals.values())] = 1
    return (tuple(dict(zip(below, below))), rows)


def times(one, other):
    """How many there are of two together."""
    return one * other


def plus(one, other):
    """How many there are of either; or the share of both in a number."""
    return one + other


def lesser(one, other):
    """The one that comes first."""
    return min(one, other)


def all_together(counts):
    """How many maps there are where there are so many of each piece, None where there is none."""
    many = 1
    for count in counts:
        many = 0 if count is None else many * count
    return many


def figures_of(world, base):
    """For each thing what its figure is worth when a map is written as one number: the first counts most."""
    figures = {}
    figure = 1
    for spot in reversed(spots(world)):
        figures[spot] = figure
        figure *= base
    return figures


def ranked(tables, figures):
    """The tables with rows weighed by their share in the number of a map."""
    seen = {}
    told = []
    for below, rows in tables:
        # A thing counts once, though several tables speak of it.
        worth = [0 if spot in seen else figures[spot] for spot in below]
        seen.update(dict(zip(below, below)))
        weighed = {}
        for row in rows:
            weighed[row] = sum([goal * figure for goal, figure in zip(row, worth)])
        told.append((below, weighed))
    return told


def as_map(world, goals):
    """The map that leads each thing of a world as a dict tells."""
    rows = []
    for kind, size in enumerate(world[0]):
        rows.append(tuple([goals[(kind, thing)] for thing in range(size)]))
    return tuple(rows)
