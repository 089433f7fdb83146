"""Patterns on which the tests draw, each as the three things that Pattern takes, and worlds of them."""

from mapwright.patterns import Pattern

# Things alone, of one, two and three kinds.
PLAIN = (1, (), {})
PLAIN_TWO = (2, (), {})
PLAIN_THREE = (3, (), {})

# Arrows (kind 0) with a first and a last point (kind 1): no doings meet.
GRAPH = (2, ((0, 1), (0, 1)), {})

# A doing that leads back when done twice, and one that then does no more.
FLIP = (1, ((0, 0),), {(0, 0): -1})
REST = (1, ((0, 0),), {(0, 0): 0})

# Of two doings the one counts that is done first; and in the other pattern the one that is done last.
FIRST = (1, ((0, 0), (0, 0)), {(0, 0): 0, (0, 1): 0, (1, 0): 1, (1, 1): 1})
LAST = (1, ((0, 0), (0, 0)), {(0, 0): 0, (0, 1): 1, (1, 0): 0, (1, 1): 1})

# A turn, and the turn done twice; done three times it is staying.
TURN = (1, ((0, 0), (0, 0)), {(0, 0): 1, (0, 1): -1, (1, 0): -1, (1, 1): 0})

# Turns of six, and so five doings of one kind.
TURN_SIX = (
    1,
    ((0, 0),) * 5,
    {(i, j): (i + j + 2) % 6 - 1 for i in range(5) for j in range(5)},
)

# Two doings one behind the other, and what both come to.
CHAIN = (3, ((0, 1), (1, 2), (0, 2)), {(0, 1): 2})

# Points (kind 1) in arrows (kind 0): a point's own arrow has it as first and last point.
LOOPS = (
    2,
    ((0, 1), (0, 1), (1, 0), (0, 0), (0, 0)),
    {
        (0, 2): 3, (1, 2): 4,
        (2, 0): -1, (2, 1): -1, (2, 3): 2, (2, 4): 2,
        (3, 0): 0, (3, 1): 0, (3, 3): 3, (3, 4): 3,
        (4, 0): 1, (4, 1): 1, (4, 3): 4, (4, 4): 4,
    },
)

# Doings 0, 1, 2 one behind the other; 0 and 1 come to 3, and 2 done twice is 2.
HOOK = (
    3,
    ((0, 1), (1, 2), (2, 2), (0, 2), (0, 2)),
    {(0, 1): 3, (1, 2): 1, (2, 2): 2, (3, 2): 3, (4, 2): 4},
)

# All but FIRST and LAST, on which only some tests draw.
ALL = (PLAIN, PLAIN_TWO, PLAIN_THREE, GRAPH, FLIP, REST, TURN, TURN_SIX, CHAIN, LOOPS, HOOK)

# Three arrows between two points: 0 to 1, 1 to 1, 1 to 0.
ARROWS = ((3, 2), ((0, 1, 1), (1, 1, 0)))
FLIPPED = ((3,), ((1, 0, 2),))
RESTED = ((4,), ((2, 1, 2, 1),))
TURNED = ((4,), ((1, 2, 0, 3), (2, 0, 1, 3)))
LINKED = ((2, 3, 2), ((2, 0), (1, 0, 0), (0, 1)))
# Points 0 and 1 with their own arrows 0 and 2, and an arrow 1 from point 0 to point 1.
LOOPED = ((3, 2), ((0, 0, 1), (0, 1, 1), (0, 2), (0, 0, 2), (0, 2, 2)))
HOOKED = ((1, 1, 2), ((0,), (1,), (1, 1), (1,), (1,)))

RIGHT = (
    (PLAIN, ((5,), ())),
    (PLAIN_TWO, ((0, 3), ())),
    (PLAIN_THREE, ((1, 0, 2), ())),
    (GRAPH, ARROWS),
    (FLIP, FLIPPED),
    (REST, RESTED),
    (TURN, TURNED),
    (TURN_SIX, ((3,), ((1, 2, 0), (2, 0, 1), (0, 1, 2), (1, 2, 0), (2, 0, 1)))),
    (CHAIN, LINKED),
    (LOOPS, LOOPED),
    (HOOK, HOOKED),
)


def made(sample):
    """The pattern of a sample; its table is copied, so that no test can spoil it for another."""
    return Pattern(sample[0], sample[1], dict(sample[2]))


def table_with(sample, changes):
    """The sample's kinds and doings, with a table in which some entries are other ones."""
    table = dict(sample[2])
    table.update(changes)
    return (sample[0], sample[1], table)


def table_without(sample, pair):
    """The sample's kinds and doings, with a table that lacks a pair."""
    table = dict(sample[2])
    del table[pair]
    return (sample[0], sample[1], table)


def nothing_of(sample):
    """The world without things."""
    return ((0,) * sample[0], ((),) * len(sample[1]))


def empty_part(sample):
    """The part without things."""
    return ((),) * sample[0]


def singles_of(sample, many):
    """The world of so many things of each kind, in which each doing leads to the thing of the same number."""
    return ((many,) * sample[0], (tuple(range(many)),) * len(sample[1]))
