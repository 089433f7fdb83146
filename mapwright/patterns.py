"""Patterns: kinds, doings between them, and what two doings come to."""

from mapwright.errors import NoPattern

STAYING = -1
MOST_KINDS = 3
MOST_DOINGS = 5


class Pattern:
    """Kinds, doings from kind to kind, and a table of what doings that meet come to."""

    def __init__(self, kinds, doings, table):
        check_doings(kinds, doings)
        check_table(doings, table)
        check_threes(doings, table)
        self.kind_count = kinds
        self.doing_ends = doings
        # A copy, as the asker may change the table later.
        self.together = dict(table)

    def kinds(self):
        """How many kinds there are."""
        return self.kind_count

    def doings(self):
        """For each doing the kinds (from, to)."""
        return self.doing_ends

    def behind(self, one, other):
        """The way to which first the one way and then the other comes."""
        return both_ways(self.together, one, other)

    def ways(self, kind):
        """The ways from a kind, rising, so staying first."""
        return [STAYING] + [doing for doing, ends in enumerate(self.doing_ends) if ends[0] == kind]

    def end(self, kind, way):
        """The kind to which a way from a kind leads."""
        if way == STAYING:
            return kind
        return self.doing_ends[way][1]


def both_ways(table, one, other):
    """What two ways come to; the table itself tells nothing of staying."""
    if one == STAYING:
        return other
    if other == STAYING:
        return one
    return table[(one, other)]


def meeting_pairs(doings):
    """The pairs of doings of which the second is from where the first is to."""
    pairs = []
    for one, ends in enumerate(doings):
        for other, more in enumerate(doings):
            if ends[1] == more[0]:
                pairs.append((one, other))
    return pairs


def is_way_between(doings, way, start, goal):
    """Whether a whole number is a way from the one kind to the other."""
    if way == STAYING:
        return start == goal
    return 0 <= way < len(doings) and doings[way] == (start, goal)


def check_doings(kinds, doings):
    """Refuse wrong counts, and doings whose ends are no kinds."""
    if not 1 <= kinds <= MOST_KINDS:
        raise NoPattern("a pattern has one to three kinds")
    if len(doings) > MOST_DOINGS:
        raise NoPattern("a pattern has at most five doings")
    for ends in doings:
        if not (0 <= ends[0] < kinds and 0 <= ends[1] < kinds):
            raise NoPattern("a doing is from a kind to a kind")


def check_table(doings, table):
    """Refuse a table of other pairs than those that meet, or with an entry of other ends."""
    pairs = meeting_pairs(doings)
    if set(table) != set(pairs):
        raise NoPattern("a table tells of just the pairs of doings that meet")
    for one, other in pairs:
        if not is_way_between(doings, table[(one, other)], doings[one][0], doings[other][1]):
            raise NoPattern("two doings come to a way of their own ends")


def check_threes(doings, table):
    """Refuse three doings for which it counts which two are taken together first."""
    pairs = meeting_pairs(doings)
    for one, other in pairs:
        for last in range(len(doings)):
            if (other, last) not in table:
                continue
            ahead = both_ways(table, table[(one, other)], last)
            after = both_ways(table, one, table[(other, last)])
            if ahead != after:
                raise NoPattern("three doings come to one way, however they are taken together")
