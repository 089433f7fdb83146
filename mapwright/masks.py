"""Masks: numbers that tell of some things, bit v being set where thing v is one of them."""


def full_mask(many):
    """The mask of so many things."""
    return (1 << many) - 1


def members(mask):
    """The things that a mask tells of, rising."""
    told = []
    left = mask
    while left:
        low = left & -left
        told.append(low.bit_length() - 1)
        left ^= low
    return told


def is_open(mask):
    """Whether a mask tells of more than one thing."""
    return mask & (mask - 1) != 0


def halves_for(many):
    """Steps (shift, mask) by which masks of so many things are counted: bits by twos, by fours, and so on."""
    width = 1
    while width < many:
        width *= 2
    told = []
    shift = 1
    while shift < width:
        told.append((shift, repeated(full_mask(shift), 2 * shift, width)))
        shift *= 2
    return told


def repeated(mask, step, width):
    """A mask that is set again at each step up to a width, both being one of 1, 2, 4, 8 and so on."""
    told = mask
    span = step
    while span < width:
        told |= told << span
        span *= 2
    return told


def bit_count(mask, halves):
    """How many things a mask tells of."""
    count = mask
    for shift, half in halves:
        count = (count & half) + ((count >> shift) & half)
    return count
