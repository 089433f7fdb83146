"""Nets: for each thing of a world the things of another one to which maps may lead it.

Things to which a thing may be led are told by a mask. Things are known by their places among all things of the first
world, by kinds, then numbers. Heads are things from which ways lead to all others, but none to another head; so a map
goes along everywhere if it goes along from the heads.
"""

from mapwright.links import all_linked
from mapwright.masks import full_mask, halves_for, is_open, members
from mapwright.patterns import STAYING
from mapwright.worlds import led, numbered, reached, spots


class Net:
    """What binds the things of a world to one another when they are led into another world."""

    def __init__(self, pattern, one, other):
        numbers = numbered(spots(one))
        self.places = list(range(len(numbers)))
        self.full = [full_mask(other[0][spot[0]]) for spot in numbers]
        self.below = [[] for spot in numbers]
        self.above = [[] for spot in numbers]
        self.acts = other[1]
        self.halves = halves_for(max(other[0]))
        self.sources = [source_masks(act, other[0][ends[1]]) for act, ends in zip(other[1], pattern.doings())]
        agreeing = {}
        for head in heads(pattern, one):
            self.bind(pattern, one, other, numbers, head, agreeing)

    def narrowed(self):
        """For each place the mask of the things that go with some beside it, or None where there are none."""
        masks = list(self.full)
        if 0 in masks or narrow(self, masks, self.places, []):
            return None
        return masks

    def bind(self, pattern, one, other, numbers, head, agreeing):
        """Bind all things below a head to it, each by one way; agreeing keeps what was told of two ways before."""
        place = numbers[head]
        first_ways = {}
        for way, spot in zip(pattern.ways(head[0]), reached(pattern, one, head)):
            first = first_ways.setdefault(spot, way)
            if first != way:
                # Ways that lead the head to one thing must lead whatever it is led to to one, too.
                if (first, way) not in agreeing:
                    agreeing[(first, way)] = agreeing_mask(other, other[0][head[0]], first, way)
                self.full[place] &= agreeing[(first, way)]
            elif way != STAYING:
                self.below[place].append((numbers[spot], way))
                self.above[numbers[spot]].append((place, way))


def source_masks(act, many):
    """For each of so many things the mask of those that the act leads to it."""
    masks = [0] * many
    for thing, goal in enumerate(act):
        masks[goal] += 1 << thing
    return masks


def heads(pattern, world):
    """Things from which ways lead to all others, but from none to another one of them."""
    told = {}
    covered = {}
    for spot in spots(world):
        if spot not in covered:
            for below in reached(pattern, world, spot):
                covered[below] = True
                told.pop(below, None)
            told[spot] = True
    return list(told)


def agreeing_mask(world, many, one_way, other_way):
    """The mask of those of so many things that two ways lead to one thing."""
    mask = 0
    for thing in range(many):
        if led(world, thing, one_way) == led(world, thing, other_way):
            mask += 1 << thing
    return mask


def narrow(net, masks, starts, trail):
    """Take from the masks what goes with nothing left beside it.

    It begins at the starts, and keeps in the trail, as (place, mask), what the masks were. Where at some place nothing
    is left, it stops and tells this place and the one beside it; else it tells nothing, by an empty tuple.
    """
    ahead = list(starts)
    waiting = dict(zip(ahead, ahead))
    while ahead:
        place = ahead.pop()
        waiting.pop(place)
        fewer = fewer_below(net, masks, place) + fewer_above(net, masks, place)
        for other, mask in fewer:
            trail.append((other, masks[other]))
            masks[other] = mask
            if mask == 0:
                return (other, place)
            if other not in waiting:
                waiting[other] = other
                ahead.append(other)
    return ()


def fewer_below(net, masks, head):
    """The places below a head of which less is left, with their masks."""
    here = masks[head]
    told = []
    for place, way in net.below[head]:
        mask = with_sources(masks[place], net.sources[way], here)
        if mask != masks[place]:
            told.append((place, mask))
    return told


def with_sources(mask, sources, here):
    """The mask of those things to which one of those here is led."""
    kept = 0
    left = mask
    while left:
        low = left & -left
        if sources[low.bit_length() - 1] & here:
            kept |= low
        left ^= low
    return kept


def fewer_above(net, masks, place):
    """The heads above a place of which less is left, with their masks."""
    told = []
    unions = {}
    for head, way in net.above[place]:
        if way not in unions:
            unions[way] = all_sources(masks[place], net.sources[way])
        mask = masks[head] & unions[way]
        if mask != masks[head]:
            told.append((head, mask))
    return told


def all_sources(mask, sources):
    """The mask of all that is led to a thing of a mask."""
    union = 0
    for thing in members(mask):
        union |= sources[thing]
    return union


def groups(net, masks):
    """The places at which more than one thing is left, in one list where they hang together, rising."""
    links = {}
    for place in net.places:
        if is_open(masks[place]):
            near = net.below[place] + net.above[place]
            links[place] = [other for other, way in near if is_open(masks[other])]
    return [sorted(found) for found in all_linked(links)]
