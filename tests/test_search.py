"""Masks, nets and the search in them, for promise 30: however a search goes, it finds the same."""

import itertools
import random
import unittest
from unittest import mock

from mapwright import counts, errors, search
from mapwright.allmaps import first_map, many_maps, maps
from mapwright.masks import bit_count, full_mask, halves_for, is_open, members
from mapwright.nets import Net, groups, heads
from mapwright.worlds import reached, spots
from tests.refusals import assert_refused
from tests.samples import ALL, ARROWS, FIRST, GRAPH, LAST, PLAIN, RIGHT, made
from tests.slow import slow_maps, some_pairs


class Masks(unittest.TestCase):
    def test_members(self):
        self.assertEqual(members(0), [])
        self.assertEqual(members(0b101101), [0, 2, 3, 5])
        self.assertEqual(members(full_mask(70)), list(range(70)))
        self.assertEqual([is_open(mask) for mask in (0, 1, 4, 2 ** 70)], [False] * 4)
        self.assertEqual([is_open(mask) for mask in (3, 5, 2 ** 70 + 1)], [True] * 3)

    def test_counted(self):
        for many in (1, 2, 3, 7, 8, 9, 33, 64, 65, 200):
            halves = halves_for(many)
            for mask in (0, 1, full_mask(many), full_mask(many) // 3, 1 << (many - 1), full_mask(many) // 7 * 3):
                self.assertEqual(bit_count(mask, halves), bin(mask).count("1"))


class Nets(unittest.TestCase):
    def test_heads(self):
        for sample, world in RIGHT:
            pattern = made(sample)
            told = heads(pattern, world)
            below = [set(reached(pattern, world, head)) for head in told]
            self.assertEqual(set().union(*below), set(spots(world)))
            for head, other in itertools.permutations(range(len(told)), 2):
                self.assertNotIn(told[head], below[other])

    def test_each_thing_of_each_map_is_left(self):
        for sample in ALL:
            for one, other in some_pairs(sample, limit=40):
                masks = Net(made(sample), one, other).narrowed()
                for some in slow_maps(sample, one, other):
                    goals = [goal for row in some for goal in row]
                    self.assertTrue(all(mask >> goal & 1 for mask, goal in zip(masks, goals)))

    def test_groups(self):
        pattern = made(GRAPH)
        # Two arrows with a point in common, an arrow alone, and a point alone.
        one = ((3, 6), ((0, 1, 3), (1, 2, 4)))
        net = Net(pattern, one, ARROWS)
        self.assertEqual(groups(net, net.narrowed()), [[0, 1, 3, 4, 5], [2, 6, 7], [8]])
        net = Net(made(PLAIN), ((3,), ()), ((1,), ()))
        self.assertEqual(groups(net, net.narrowed()), [])


def maps_by_points(one, other):
    """All maps, in their order, of worlds whose doings are all from kind 0 to kind 1: by where kind 1 is led."""
    found = []
    here = list(zip(*one[1]))
    there = list(zip(*other[1]))
    for points in itertools.product(range(other[0][1]), repeat=one[0][1]):
        goals = [tuple([points[point] for point in row]) for row in here]
        choices = [[number for number, row in enumerate(there) if row == goal] for goal in goals]
        found.extend([(arrows, points) for arrows in itertools.product(*choices)])
    return sorted(found)


def crossed_pairs():
    """Patterns and pairs of worlds without any order, mostly of few maps or none, the same each time."""
    chance = random.Random(12)
    told = []
    for time in range(250):
        doings = chance.randint(2, 3)
        sizes = ((chance.randint(4, 8), chance.randint(3, 6)), (chance.randint(3, 7), chance.randint(2, 3)))
        worlds = []
        for arrows, points in sizes:
            rows = [tuple([chance.randrange(points) for arrow in range(arrows)]) for doing in range(doings)]
            worlds.append(((arrows, points), tuple(rows)))
        told.append(((2, ((0, 1),) * doings, {}), worlds[0], worlds[1]))
    for many in (3, 5, 7):
        circle = ((many, many), (tuple(range(many)), tuple(range(1, many)) + (0,)))
        told.append((GRAPH, circle, ((2, 2), ((0, 1), (1, 0)))))
        told.append((GRAPH, circle, ((6, 3), ((0, 0, 1, 1, 2, 2), (1, 2, 0, 2, 0, 1)))))
    return told


class HoweverTheSearchGoes(unittest.TestCase):
    """The same is told where the search gives up its order at once, and where no tables are folded up at once."""

    def assert_told(self):
        for sample in ALL + (FIRST, LAST):
            for one, other in some_pairs(sample, limit=120):
                self.assert_maps(sample, one, other, slow_maps(sample, one, other))
        counts_seen = []
        for sample, one, other in crossed_pairs():
            wanted = maps_by_points(one, other)
            counts_seen.append(min(len(wanted), 10))
            self.assert_maps(sample, one, other, wanted)
        self.assertEqual([counts_seen.count(many) > 5 for many in (0, 2, 10)], [True] * 3)

    def assert_maps(self, sample, one, other, wanted):
        with self.subTest(sample=sample, one=one, other=other):
            self.assertEqual(first_map(made(sample), one, other), wanted[0] if wanted else None)
            self.assertEqual(many_maps(made(sample), one, other), len(wanted))
            if len(wanted) <= 2000:
                self.assertEqual(maps(made(sample), one, other), wanted)
            else:
                assert_refused(self, errors.TooMany, lambda: maps(made(sample), one, other))

    def test_as_it_is(self):
        self.assert_told()

    def test_never_in_order(self):
        with mock.patch.object(search, "QUICK_FAILS", -1), mock.patch.object(search, "FIRST_FAILS", 2):
            self.assert_told()

    def test_always_by_things(self):
        for most in (0, 4, 10):
            with mock.patch.object(counts, "MOST_ROOM", most):
                self.assert_told()


if __name__ == "__main__":
    unittest.main()
