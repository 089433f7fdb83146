"""What a saying is: arrows between sets, ways of them, what is given, and an aim."""

from mapwright.errors import NoSaying, TooMany

MOST_ARROWS = 10
LAST_SET = 7
MOST_GIVEN = 8
MOST_WAYS = 60


def check_saying(saying):
    """Refuse what is no saying, then a saying with too many ways."""
    ends = saying[0]
    check_ends(ends)
    check_given(ends, saying[1])
    if not are_beside(ends, saying[2][0], saying[2][1]):
        raise NoSaying("the aim has two ways from one set and to one")
    if len(all_ways(ends)) > MOST_WAYS:
        raise TooMany("there are more than 60 ways")


def check_ends(ends):
    """Refuse wrong counts of arrows, ends that are no sets, and arrows that come back."""
    if not 1 <= len(ends) <= MOST_ARROWS:
        raise NoSaying("there are one to ten arrows")
    for start, goal in ends:
        if not (0 <= start <= LAST_SET and 0 <= goal <= LAST_SET):
            raise NoSaying("an arrow is from a set to a set, which are numbers from 0 to 7")
    if comes_back(ends):
        raise NoSaying("arrows, one behind the other, never come back")


def comes_back(ends):
    """Whether arrows, one behind the other, come back to where they began."""
    left = list(ends)
    many = -1
    while many != len(left):
        many = len(left)
        goals = [goal for start, goal in left]
        # An arrow from where none leads to is on no way that comes back.
        left = [some for some in left if some[0] in goals]
    return many > 0


def check_given(ends, given):
    """Refuse too much that is given, and what can't be given."""
    if len(given) > MOST_GIVEN:
        raise NoSaying("at most eight are given")
    for told in given:
        if not can_be_given(ends, told):
            raise NoSaying("two ways from one set and to one are given as the same, or an arrow as apart")


def can_be_given(ends, told):
    """Whether this is ("same", way, way) of ways beside one another, or ("apart", arrow) of an arrow."""
    if told[0] == "same":
        return are_beside(ends, told[1], told[2])
    return told[0] == "apart" and is_arrow(ends, told[1])


def is_arrow(ends, number):
    """Whether a whole number is the number of an arrow."""
    return 0 <= number < len(ends)


def is_way(ends, way):
    """Whether a tuple of whole numbers is a way."""
    if not way or not all([is_arrow(ends, arrow) for arrow in way]):
        return False
    return all([ends[ahead][1] == ends[behind][0] for ahead, behind in zip(way, way[1:])])


def way_start(ends, way):
    """The set from which a way is."""
    return ends[way[0]][0]


def way_goal(ends, way):
    """The set to which a way is."""
    return ends[way[-1]][1]


def are_beside(ends, one, other):
    """Whether two tuples of whole numbers are ways from one set and to one."""
    if not (is_way(ends, one) and is_way(ends, other)):
        return False
    return way_start(ends, one) == way_start(ends, other) and way_goal(ends, one) == way_goal(ends, other)


def all_ways(ends):
    """All ways, the short ones first."""
    told = []
    fresh = [(arrow,) for arrow in range(len(ends))]
    while fresh:
        told.extend(fresh)
        longer = []
        for way in fresh:
            goal = way_goal(ends, way)
            longer.extend([way + (arrow,) for arrow, some in enumerate(ends) if some[0] == goal])
        fresh = longer
    return told


def apart_arrows(given):
    """The arrows that are given as apart."""
    return [told[1] for told in given if told[0] == "apart"]
