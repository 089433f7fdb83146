"""Steps by which ways of a saying are drawn together: made, and judged whether they are right."""

from mapwright.arrows import all_ways, apart_arrows, are_beside, is_way, way_goal, way_start


class Ties:
    """Steps, and which ways are together by them."""

    def __init__(self):
        self.steps = []
        self.marks = {}

    def mark(self, way):
        """A way that stands for all that are together with this one."""
        return self.marks.get(way, way)

    def are_tied(self, one, other):
        """Whether two ways are together by the steps."""
        return self.mark(one) == self.mark(other)

    def take(self, step):
        """Take in a step (way, way, why)."""
        self.steps.append(step)
        kept = self.mark(step[0])
        gone = self.mark(step[1])
        self.marks[step[0]] = kept
        self.marks[step[1]] = gone
        for way in list(self.marks):
            if self.marks[way] == gone:
                self.marks[way] = kept

    def offer(self, one, other, why):
        """Take in a step where it draws together what isn't together."""
        if not self.are_tied(one, other):
            self.take((one, other, why))


def all_ties(saying):
    """The ties by steps, each right by those ahead of it, to which no right step adds anything."""
    ties = Ties()
    for place, told in enumerate(saying[1]):
        if told[0] == "same":
            ties.offer(told[1], told[2], ("given", place))
    many = -1
    while many != len(ties.steps):
        many = len(ties.steps)
        put_around(ties, saying[0])
        take_off(ties, saying[0], apart_arrows(saying[1]))
    return ties


def put_around(ties, ends):
    """Put each arrow ahead of both ways of each step, and behind both."""
    for one, other, why in list(ties.steps):
        for arrow, some in enumerate(ends):
            if some[1] == way_start(ends, one):
                ties.offer((arrow,) + one, (arrow,) + other, ("put", (arrow,), ()))
            if some[0] == way_goal(ends, one):
                ties.offer(one + (arrow,), other + (arrow,), ("put", (), (arrow,)))


def take_off(ties, ends, arrows):
    """Take each of the arrows, given as apart, off ways that are together."""
    for arrow in arrows:
        firsts = {}
        for way in all_ways(ends):
            if way_goal(ends, way) == ends[arrow][0]:
                first = firsts.setdefault(ties.mark(way + (arrow,)), way)
                ties.offer(first, way, ("off", arrow))


def is_right(saying, ties, step):
    """Whether a step is right behind those that the ties have."""
    if not are_beside(saying[0], step[0], step[1]):
        return False
    why = step[2]
    if why[0] == "given":
        return is_given(saying[1], step, why[1])
    if why[0] == "put":
        return is_put(ties, step, why[1], why[2])
    return is_off(saying, ties, step, why[1])


def is_given(given, step, place):
    """Whether a step's two ways, in this order, are given as the same at a place."""
    return 0 <= place < len(given) and given[place] == ("same", step[0], step[1])


def is_put(ties, step, ahead, behind):
    """Whether a step's ways are ways that are together, with arrows put ahead and behind."""
    one = between(step[0], ahead, behind)
    other = between(step[1], ahead, behind)
    return one != () and other != () and ties.are_tied(one, other)


def between(way, ahead, behind):
    """What a way has between arrows with which it begins and ends; no arrows where it doesn't."""
    stop = len(way) - len(behind)
    inner = way[len(ahead):max(stop, 0)]
    return inner if ahead + inner + behind == way else ()


def is_off(saying, ties, step, arrow):
    """Whether a step's ways are together with an arrow behind them that is given as apart."""
    one = step[0] + (arrow,)
    other = step[1] + (arrow,)
    if arrow not in apart_arrows(saying[1]):
        return False
    return is_way(saying[0], one) and is_way(saying[0], other) and ties.are_tied(one, other)
