"""Search in a net for values at a group of places that go together: the first ones in order, or all.

Values are set one by one, and what then goes with nothing is taken from the masks; where nothing is left, the last
value is taken back. Places at which this fails are set sooner, so that what hinders is found soon, wherever it lies.
"""

from mapwright.masks import bit_count, is_open
from mapwright.nets import narrow

QUICK_FAILS = 100
FIRST_FAILS = 30
SCALE = 1000000


class Search:
    """The masks of a net, and the choices that were made at a group of places."""

    def __init__(self, net, masks):
        self.net = net
        self.masks = list(masks)
        self.failures = [1] * len(masks)
        self.group = []
        self.trail = []
        self.choices = []
        self.fails = 0

    def begin(self, group):
        """Take back all, and turn to a group of places."""
        self.back_to(0)
        self.choices = []
        self.group = group

    def left_masks(self):
        """The masks at the places of the group."""
        return [self.masks[place] for place in self.group]

    def put(self, place, mask):
        """Leave what the mask tells at a place; whether something is left at each."""
        self.trail.append((place, self.masks[place]))
        self.masks[place] = mask
        failed = narrow(self.net, self.masks, [place], self.trail)
        for hindering in failed:
            self.failures[hindering] += 1
        if failed:
            self.fails += 1
        return not failed

    def back_to(self, mark):
        """Take back all that was put since the trail had this length."""
        while len(self.trail) > mark:
            old = self.trail.pop()
            self.masks[old[0]] = old[1]

    def choose(self, place):
        """Leave the least thing at a place; whether something is left at each."""
        low = self.masks[place] & -self.masks[place]
        self.choices.append((len(self.trail), place, self.masks[place] ^ low))
        return self.put(place, low)

    def give_up_last(self):
        """Leave at the last place at which it can be done what was not chosen there; False where there is none."""
        while self.choices:
            choice = self.choices.pop()
            self.back_to(choice[0])
            if self.put(choice[1], choice[2]):
                return True
        return False

    def first_open(self):
        """The first place of the group at which more than one thing is left, or None."""
        for place in self.group:
            if is_open(self.masks[place]):
                return place
        return None

    def tightest_open(self):
        """The place at which few things are left and much has failed, or None."""
        best = None
        best_score = 0
        for place in self.group:
            mask = self.masks[place]
            if is_open(mask):
                score = bit_count(mask, self.net.halves) * SCALE // self.failures[place]
                if best is None or score < best_score:
                    best = place
                    best_score = score
        return best

    def seek(self, in_order, most):
        """Choose on until one thing is left at each place: True; False where there is no such choice.

        Places are taken in order, or as they are tight. None where it failed more often than told by most.
        """
        self.fails = 0
        while most is None or self.fails <= most:
            place = self.first_open() if in_order else self.tightest_open()
            if place is None:
                return True
            if not self.choose(place) and not self.give_up_last():
                return False
        return None

    def solve(self):
        """Find some values, beginning anew, with what was learned, where it fails too often; whether there are any."""
        mark = len(self.trail)
        most = FIRST_FAILS
        found = None
        while found is None:
            self.back_to(mark)
            self.choices = []
            found = self.seek(False, most)
            most += most // 2
        return found


def first_values(search, group):
    """The first masks of one thing each, at the places of a group, that go together, or None."""
    search.begin(group)
    found = search.seek(True, QUICK_FAILS)
    if found is None:
        # In order it fails too often: some place far behind may hinder, which is found sooner in another order.
        return first_by_trials(search, group)
    return search.left_masks() if found else None


def first_by_trials(search, group):
    """The first masks, sought place by place by whether any values go with those of the places ahead."""
    if not has_values(search, group):
        return None
    best = dict(zip(group, search.left_masks()))
    search.begin(group)
    for place in group:
        best = settled(search, place, best)
    return search.left_masks()


def has_values(search, group):
    """Whether there are masks of one thing each, at the places of a group, that go together."""
    search.begin(group)
    return search.solve()


def settled(search, place, best):
    """Leave at a place the least thing with which any values go; best has some such values for all places."""
    while True:
        mask = search.masks[place]
        low = mask & -mask
        if best[place] == low:
            search.put(place, low)
            return best
        mark = len(search.trail)
        if search.put(place, low) and search.solve():
            best = dict(zip(search.group, search.left_masks()))
            search.back_to(mark)
        else:
            search.back_to(mark)
            search.put(place, mask ^ low)


def all_values(search, group, most):
    """All lists of masks of one thing each, at the places of a group, that go together, but no more than most."""
    search.begin(group)
    told = []
    found = search.seek(False, None)
    while found and len(told) < most:
        told.append(search.left_masks())
        found = search.give_up_last() and search.seek(False, None)
    return told
