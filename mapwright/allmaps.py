"""All maps of a world into another one: told, counted, and the first one."""

from mapwright.counts import Counter
from mapwright.errors import TooMany
from mapwright.nets import Net, groups
from mapwright.search import Search, all_values, first_values, has_values

MOST_MAPS = 2000


def maps(pattern, one, other):
    """All maps of the one world into the other, in their order."""
    return some_maps(pattern, one, other, MOST_MAPS)


def some_maps(pattern, one, other, most):
    """All maps of the one world into the other, in their order; refused where there are more than so many."""
    net = Net(pattern, one, other)
    masks = net.narrowed()
    if masks is None:
        return []
    search = Search(net, masks)
    apart = groups(net, masks)
    # First all groups, as where one has no values there is no map, however many the others have.
    if not all([has_values(search, group) for group in apart]):
        return []
    found = [masks]
    for group in apart:
        told = all_values(search, group, most // len(found) + 1)
        if len(found) * len(told) > most:
            raise TooMany("there are more maps than are told")
        found = all_set(found, group, told)
    return sorted([as_map(one, values) for values in found])


def all_set(found, group, told):
    """All masks of the found ones, with each of the told lists set at the places of a group."""
    wider = []
    for masks in found:
        for some in told:
            wider.append(with_set(masks, group, some))
    return wider


def with_set(masks, group, some):
    """Masks with others at the places of a group."""
    fresh = list(masks)
    for place, mask in zip(group, some):
        fresh[place] = mask
    return fresh


def many_maps(pattern, one, other):
    """How many maps go of the one world into the other."""
    net = Net(pattern, one, other)
    masks = net.narrowed()
    if masks is None:
        return 0
    return Counter(net).many(masks, net.places)


def first_map(pattern, one, other):
    """The first map of the one world into the other, or None."""
    net = Net(pattern, one, other)
    masks = net.narrowed()
    if masks is None:
        return None
    search = Search(net, masks)
    # What hangs not together is sought apart: the first map has the first values of each group.
    for group in groups(net, masks):
        found = first_values(search, group)
        if found is None:
            return None
        masks = with_set(masks, group, found)
    return as_map(one, masks)


def as_map(world, masks):
    """The map that leads each thing of a world to the one thing that its mask tells."""
    goals = [mask.bit_length() - 1 for mask in masks]
    rows = []
    start = 0
    for size in world[0]:
        rows.append(tuple(goals[start:start + size]))
        start += size
    return tuple(rows)
