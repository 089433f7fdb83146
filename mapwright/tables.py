"""Tables: rows of values at spots, each with a weight, put together and folded up spot by spot.

A table is a tuple (spots, rows): a tuple of spots, and a dict that tells a weight for each tuple of values, one for
each spot. The asker says what becomes of weights: times of two rows that are put together, plus of two rows that are
one when a spot is left out.
"""


def joined(one, other, times):
    """The table of all rows of both tables that agree at the spots which both have."""
    common = [spot for spot in other[0] if spot in one[0]]
    fresh = [spot for spot in other[0] if spot not in one[0]]
    here = places_of(one[0], common)
    there = places_of(other[0], common)
    added = places_of(other[0], fresh)
    fitting = {}
    for row, weight in other[1].items():
        fitting.setdefault(picked(row, there), []).append((picked(row, added), weight))
    rows = {}
    for row, weight in one[1].items():
        for rest, more in fitting.get(picked(row, here), []):
            rows[row + rest] = times(weight, more)
    return (one[0] + tuple(fresh), rows)


def places_of(spots, some):
    """The places at which some of the spots stand."""
    return [spots.index(spot) for spot in some]


def picked(row, places):
    """A row's values at some places."""
    return tuple([row[place] for place in places])


def all_joined(tables, times, most=None):
    """One table of one or more, cut down to so many rows at most."""
    # Short tables first, so that fewer rows are made that go with nothing behind.
    ordered = sorted(tables, key=lambda table: len(table[1]))
    whole = ordered[0]
    for table in ordered[1:]:
        whole = cut_down(joined(whole, table, times), most)
    return whole


def cut_down(table, most):
    """The table with its first rows alone, so many at most; None bounds nothing."""
    if most is None or len(table[1]) <= most:
        return table
    # By one order of the spots for all tables, as else the rows that are left may go with none of another table.
    places = places_of(table[0], sorted(table[0]))
    rows = {}
    for row in sorted(table[1], key=lambda values: picked(values, places))[:most]:
        rows[row] = table[1][row]
    return (table[0], rows)


def without(table, spot, plus):
    """The table with a spot left out."""
    place = table[0].index(spot)
    rows = {}
    for row, weight in table[1].items():
        rest = row[:place] + row[place + 1:]
        rows[rest] = plus(rows[rest], weight) if rest in rows else weight
    return (table[0][:place] + table[0][place + 1:], rows)


def shared_values(tables):
    """For each spot a dict of the values that all tables with this spot have there."""
    shared = {}
    for spots, rows in tables:
        for place, spot in enumerate(spots):
            here = {}
            for row in rows:
                if spot not in shared or row[place] in shared[spot]:
                    here[row[place]] = True
            shared[spot] = here
    return shared


def trimmed(tables):
    """The tables without rows that can't be put together with any row of another table."""
    left = list(tables)
    many = -1
    while many != row_count(left):
        many = row_count(left)
        shared = shared_values(left)
        left = [(spots, kept_rows(spots, rows, shared)) for spots, rows in left]
    return left


def row_count(tables):
    """How many rows the tables have."""
    return sum([len(rows) for spots, rows in tables])


def kept_rows(spots, rows, shared):
    """The rows with nothing but shared values."""
    kept = {}
    for row, weight in rows.items():
        if all([value in shared[spot] for spot, value in zip(spots, row)]):
            kept[row] = weight
    return kept


def folded(tables, times, plus, most=None):
    """A tuple of the steps, each (spot, table), and of the weights to which all comes.

    Each step puts all tables with its spot together to one, and goes on with that one without the spot. A table
    without spots is a weight, or None where it has no row. Where most is told, no step goes on with more rows: this
    is quick, but then not all that there is comes to the weights.
    """
    steps = []
    weights = []
    left = trimmed(tables)
    shared = shared_values(left)
    while left:
        spot = next_spot(left, shared)
        whole = all_joined([table for table in left if spot in table[0]], times, most)
        steps.append((spot, whole))
        rest = without(whole, spot, plus)
        left = [table for table in left if spot not in table[0]]
        if rest[0]:
            left.append(rest)
        else:
            weights.append(rest[1].get(()))
    return (steps, weights)


def next_spot(tables, shared):
    """The first spot of those that make the least table, by the values there are at the spots bound up with it."""
    bound = {}
    for spots, rows in tables:
        for spot in spots:
            bound.setdefault(spot, {}).update(dict(zip(spots, spots)))
    return min(sorted(bound), key=lambda spot: room(bound[spot], shared))


def room(spots, shared):
    """How many rows there can be at some spots."""
    many = 1
    for spot in spots:
        many *= len(shared[spot])
    return many


def unfolded(steps):
    """All dicts from spots to values that go with each table that was folded up in the steps."""
    found = [{}]
    # Whatever else a step's table speaks of was left out later, so it is set by now.
    for spot, table in reversed(steps):
        found = with_spot(found, spot, table)
    return found


def with_spot(found, spot, table):
    """The dicts with a value for one spot more, by a table of this spot and of others that they have."""
    others = [other for other in table[0] if other != spot]
    here = places_of(table[0], others)
    place = table[0].index(spot)
    choices = {}
    for row in table[1]:
        choices.setdefault(picked(row, here), []).append(row[place])
    wider = []
    for values in found:
        for value in choices[tuple([values[other] for other in others])]:
            more = dict(values)
            more[spot] = value
            wider.append(more)
    return wider
