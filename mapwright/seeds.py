"""Seeds: the worlds of the ways from a kind, whose maps into a world are its things."""

from mapwright.worlds import led


def seed(pattern, kind):
    """The world of the ways from a kind."""
    rows = ways_by_ends(pattern, kind)
    acts = []
    for doing, ends in enumerate(pattern.doings()):
        goals = rows[ends[1]]
        acts.append(tuple([goals.index(pattern.behind(way, doing)) for way in rows[ends[0]]]))
    return (tuple([len(row) for row in rows]), tuple(acts))


def ways_by_ends(pattern, kind):
    """For each kind the ways from the given kind that lead to it, rising."""
    rows = []
    for goal in range(pattern.kinds()):
        rows.append([way for way in pattern.ways(kind) if pattern.end(kind, way) == goal])
    return rows


def map_at(pattern, world, kind, thing):
    """The map of the kind's seed into the world that takes staying to the thing."""
    return tuple([tuple([led(world, thing, way) for way in row]) for row in ways_by_ends(pattern, kind)])


def thing_at(kind, some):
    """The thing to which a map of the kind's seed takes staying."""
    # Staying is the least way, so the first thing of the seed's own kind.
    return some[kind][0]
