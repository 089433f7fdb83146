"""Products, sums, and the pairs that fit, each with the maps that belong to it."""

from mapwright.maps import staying, then
from mapwright.parts import equal_part, part_world


def product(pattern, one, other):
    """The world of all pairs of a thing of the one and a thing of the other, and the maps to both."""
    sizes = tuple([here * there for here, there in zip(one[0], other[0])])
    acts = []
    for doing, ends in enumerate(pattern.doings()):
        acts.append(all_pairs(one[1][doing], other[1][doing], other[0][ends[1]]))
    left = tuple([tuple([pair // many for pair in range(size)]) for size, many in zip(sizes, other[0])])
    right = tuple([tuple([pair % many for pair in range(size)]) for size, many in zip(sizes, other[0])])
    return ((sizes, tuple(acts)), left, right)


def all_pairs(row, more, many):
    """The numbers of all pairs of the one row's and the other row's, where the other world has so many things."""
    pairs = []
    for thing in row:
        pairs.extend([thing * many + second for second in more])
    return tuple(pairs)


def paired(other, left, right):
    """The map into the product with the other world that a map into the one and a map into the other make."""
    return tuple([paired_row(here, there, many) for here, there, many in zip(left, right, other[0])])


def paired_row(here, there, many):
    """The numbers of the pairs of two rows, place by place."""
    return tuple([thing * many + second for thing, second in zip(here, there)])


def one_thing(pattern):
    """The world of just one thing of each kind."""
    return ((1,) * pattern.kinds(), ((0,),) * len(pattern.doings()))


def nothing(pattern):
    """The world without things."""
    return ((0,) * pattern.kinds(), ((),) * len(pattern.doings()))


def sum_of(pattern, one, other):
    """The world of the one's things and then the other's, and the maps in."""
    sizes = tuple([here + there for here, there in zip(one[0], other[0])])
    acts = []
    for doing, ends in enumerate(pattern.doings()):
        acts.append(one[1][doing] + raised(other[1][doing], one[0][ends[1]]))
    right = tuple([raised(row, many) for row, many in zip(staying(other), one[0])])
    return ((sizes, tuple(acts)), staying(one), right)


def raised(row, many):
    """A row with each number raised by so many."""
    return tuple([thing + many for thing in row])


def either(left, right):
    """The map of a sum that a map of the one and a map of the other make."""
    return tuple([here + there for here, there in zip(left, right)])


def fitted(pattern, one, other, left, right):
    """The world of the pairs that two maps lead to the same, and the maps to the one and to the other."""
    told = product(pattern, one, other)
    part = equal_part(then(told[1], left), then(told[2], right))
    alone = part_world(pattern, told[0], part)
    return (alone[0], then(alone[1], told[1]), then(alone[1], told[2]))
