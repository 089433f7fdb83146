"""Tables: rows of values at spots, each with a weight, put together and folded up spot by spot.

A table is a tuple (spots, rows): a tuple of spots, and a dict that tells a weight for each tuple of values, one for
each spot. A row that is put together of two has the product of their weights, and rows that become one where a spot is
left out have the sum. Sizes tell for each spot how many values there are.
"""


def total(tables, sizes):
    """The sum of the weights of all rows of all tables put together."""
    weight = 1
    left = list(tables)
    while left:
        spot = best_spot(bound_spots([table[0] for table in left]), sizes)
        rest = folded([table for table in left if spot in table[0]], spot)
        left = [table for table in left if spot not in table[0]]
        if rest[0]:
            left.append(rest)
        else:
            weight *= rest[1].get((), 0)
    return weight


def folded(tables, spot):
    """The table of all rows of some tables put together, with a spot left out that all of them have."""
    # Short tables first, so that fewer rows are made that go with nothing behind.
    ordered = sorted(tables, key=lambda table: len(table[1]))
    whole = ordered[0]
    for table in ordered[1:]:
        whole = joined(whole, table)
    return without(whole, spot)


def joined(one, other):
    """The table of all rows of both tables that agree at the spots which both have."""
    common = [spot for spot in other[0] if spot in one[0]]
    fresh = [spot for spot in other[0] if spot not in one[0]]
    here = places_of(one[0], common)
    there = places_of(other[0], common)
    added = places_of(other[0], fresh)
    fitting = {}
    for row, weight in other[1].items():
        fitting.setdefault(picked(row, there), []).append((picked(row, added), weight))
    rows = {}
    for row, weight in one[1].items():
        for rest, more in fitting.get(picked(row, here), []):
            rows[row + rest] = weight * more
    return (one[0] + tuple(fresh), rows)


def places_of(spots, some):
    """The places at which some of the spots stand."""
    return [spots.index(spot) for spot in some]


def picked(row, places):
    """A row's values at some places."""
    return tuple([row[place] for place in places])


def without(table, spot):
    """The table with a spot left out."""
    place = table[0].index(spot)
    rows = {}
    for row, weight in table[1].items():
        rest = row[:place] + row[place + 1:]
        rows[rest] = rows.get(rest, 0) + weight
    return (table[0][:place] + table[0][place + 1:], rows)


def bound_spots(scopes):
    """For each spot a dict of those that stand with it in some of the tuples of spots."""
    bound = {}
    for spots in scopes:
        for spot in spots:
            bound.setdefault(spot, {}).update(dict(zip(spots, spots)))
    return bound


def best_spot(bound, sizes):
    """The first spot of those whose tables, put together, have least room."""
    return min(sorted(bound), key=lambda spot: room(bound[spot], sizes))


def room(spots, sizes):
    """How many rows there can be at some spots."""
    many = 1
    for spot in spots:
        many *= sizes[spot]
    return many


def greatest_room(scopes, sizes):
    """How many rows can come up at most when tables of these spots are folded up."""
    bound = bound_spots(scopes)
    greatest = 1
    while bound:
        spot = best_spot(bound, sizes)
        greatest = max(greatest, room(bound[spot], sizes))
        near = bound.pop(spot)
        for other in near:
            if other != spot:
                bound[other].update(near)
                bound[other].pop(spot)
    return greatest


def even_weight(table, sizes):
    """The one weight of all rows that there can be, where they are all there, so that they bind nothing; else 0."""
    weights = list(table[1].values())
    if len(weights) == room(table[0], sizes) and min(weights) == max(weights):
        return weights[0]
    return 0
