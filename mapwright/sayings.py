"""Sayings of arrows between plain sets: shown by steps, or broken by plain sets."""

from mapwright.arrows import all_ways, check_saying, way_goal, way_start
from mapwright.steps import Ties, all_ties, is_right


def judged(saying):
    """("holds", steps), or ("breaks", sizes, maps)."""
    check_saying(saying)
    ties = all_ties(saying)
    if ties.are_tied(saying[2][0], saying[2][1]):
        return ("holds", tuple(ties.steps))
    return breaking_sets(saying[0], ties, way_start(saying[0], saying[2][0]))


def breaking_sets(ends, ties, start):
    """Plain sets in which just those ways from a set are the same that are together."""
    # A set's things are the ways to it from the start, those that are together one thing; each arrow is put behind.
    # So at the start itself there is one thing, the way without arrows.
    rows = [[] for number in range(set_count(ends))]
    rows[start].append(())
    for way in all_ways(ends):
        row = rows[way_goal(ends, way)]
        if way_start(ends, way) == start and ties.mark(way) not in row:
            row.append(ties.mark(way))
    maps = []
    for arrow, some in enumerate(ends):
        goals = rows[some[1]]
        maps.append(tuple([goals.index(ties.mark(way + (arrow,))) for way in rows[some[0]]]))
    return ("breaks", tuple([len(row) for row in rows]), tuple(maps))


def set_count(ends):
    """How many sets there are, from 0 to the greatest number in the ends."""
    return max([max(some) for some in ends]) + 1


def follows(saying, steps):
    """Whether steps show the saying."""
    check_saying(saying)
    ties = Ties()
    for step in steps:
        if not is_right(saying, ties, step):
            return False
        ties.take(step)
    return ties.are_tied(saying[2][0], saying[2][1])


def breaks(saying, sizes, maps):
    """Whether two tuples are plain sets in which all that is given is so, but the aim's ways aren't the same."""
    check_saying(saying)
    if not are_sets(saying[0], sizes, maps):
        return False
    things = sizes[way_start(saying[0], saying[2][0])]
    if same_for(maps, things, saying[2][0], saying[2][1]):
        return False
    return all([is_so(saying[0], sizes, maps, told) for told in saying[1]])


def are_sets(ends, sizes, maps):
    """Whether two tuples tell how many things each set has, and where each arrow leads them."""
    if len(sizes) != set_count(ends) or len(maps) != len(ends):
        return False
    if not all([size >= 0 for size in sizes]):
        return False
    for row, some in zip(maps, ends):
        if len(row) != sizes[some[0]]:
            return False
        if not all([0 <= thing < sizes[some[1]] for thing in row]):
            return False
    return True


def is_so(ends, sizes, maps, told):
    """Whether something given is so in plain sets."""
    if told[0] == "apart":
        row = maps[told[1]]
        return len(set(row)) == len(row)
    return same_for(maps, sizes[way_start(ends, told[1])], told[1], told[2])


def same_for(maps, things, one, other):
    """Whether two ways lead each of so many things alike."""
    return all([led_along(maps, one, thing) == led_along(maps, other, thing) for thing in range(things)])


def led_along(maps, way, thing):
    """The thing to which a way leads a thing."""
    here = thing
    for arrow in way:
        here = maps[arrow][here]
    return here
