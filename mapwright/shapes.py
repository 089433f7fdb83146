"""A map of a world into another one that is both apart and onto, sought by what lies around each thing.

Things of both worlds are given marks, numbers that become more unlike step by step: two things have one mark as long
as what doings lead them to, and what doings lead to them, has like marks. Where things of one mark are left, one of
them is taken together with each of the other world in turn.
"""

from mapwright.worlds import spots

CHOSEN = -1


def same_shape(pattern, one, other):
    """A map of the one world into the other that is apart and onto, or None."""
    if one[0] != other[0]:
        return None
    links = (marked_links(pattern, one), marked_links(pattern, other))
    ahead = [(kinds_as_marks(one), kinds_as_marks(other))]
    while ahead:
        marks = refined(links, ahead.pop())
        here = by_marks(marks[0])
        there = by_marks(marks[1])
        if counts_of(here) == counts_of(there):
            if len(here) == len(marks[0]):
                return map_by_marks(one, marks[0], there)
            ahead.extend(choices(marks, here, there))
    return None


def marked_links(pattern, world):
    """For each thing (kind, thing) a list of tuples (doing, side, thing): whither it is led, and whence."""
    links = {}
    for spot in spots(world):
        links[spot] = []
    for doing, ends in enumerate(pattern.doings()):
        for thing, goal in enumerate(world[1][doing]):
            links[(ends[0], thing)].append((doing, 0, (ends[1], goal)))
            links[(ends[1], goal)].append((doing, 1, (ends[0], thing)))
    return links


def kinds_as_marks(world):
    """The first marks: things of one kind have one mark."""
    marks = {}
    for spot in spots(world):
        marks[spot] = spot[0]
    return marks


def refined(links, marks):
    """Marks of both worlds that become no more unlike by what lies around the things."""
    many = -1
    numbers = {}
    left = marks
    while many != len(numbers):
        many = len(numbers)
        numbers = {}
        left = tuple([fresh_marks(around, old, numbers) for around, old in zip(links, left)])
    return left


def fresh_marks(links, marks, numbers):
    """Marks by the old ones and those around; numbers, shared by both worlds, is filled with what bears which mark."""
    fresh = {}
    for spot, around in links.items():
        seen = sorted([(doing, side, marks[more]) for doing, side, more in around])
        fresh[spot] = numbers.setdefault((marks[spot], tuple(seen)), len(numbers))
    return fresh


def by_marks(marks):
    """For each mark the things that have it."""
    found = {}
    for spot, mark in marks.items():
        found.setdefault(mark, []).append(spot)
    return found


def counts_of(found):
    """For each mark how many things have it."""
    counts = {}
    for mark, some in found.items():
        counts[mark] = len(some)
    return counts


def choices(marks, here, there):
    """The marks with one thing of the one world and one of the other chosen, in turn for each of the other."""
    mark = min([(len(some), mark) for mark, some in here.items() if len(some) > 1])[1]
    told = []
    for spot in reversed(there[mark]):
        told.append((with_chosen(marks[0], here[mark][0]), with_chosen(marks[1], spot)))
    return told


def with_chosen(marks, spot):
    """Marks in which one thing has a mark of its own."""
    fresh = dict(marks)
    fresh[spot] = CHOSEN
    return fresh


def map_by_marks(world, marks, there):
    """The map that leads each thing of the world to the one thing that has its mark."""
    rows = []
    for kind, size in enumerate(world[0]):
        rows.append(tuple([there[marks[(kind, thing)]][0][1] for thing in range(size)]))
    return tuple(rows)
