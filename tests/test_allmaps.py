"""Promise 30, and 1 for it."""

import itertools
import unittest

from mapwright import errors
from mapwright.allmaps import first_map, many_maps, maps
from mapwright.maps import is_map
from mapwright.worlds import renumbered
from tests.refusals import assert_refused
from tests.samples import (
    ALL, ARROWS, CHAIN, FLIP, FLIPPED, GRAPH, LINKED, LOOPED, LOOPS, PLAIN, PLAIN_THREE, PLAIN_TWO, REST, RESTED,
    RIGHT, TURN, TURNED, made, nothing_of,
)
from tests.slow import slow_maps, some_pairs, worlds_of

ARROW = ((1, 2), ((0,), (1,)))
LOOP = ((1, 1), ((0,), (0,)))
POINTS = ((0, 3), ((), ()))
# Points one behind the other, point 0 behind the last again.
CIRCLE_TWO = ((2, 2), ((0, 1), (1, 0)))
CIRCLE_THREE = ((3, 3), ((0, 1, 2), (1, 2, 0)))
CIRCLE_SIX = ((6, 6), ((0, 1, 2, 3, 4, 5), (1, 2, 3, 4, 5, 0)))

# One thing of kind 2; led to it four of kind 1, and to the last of these four of kind 0.
TREE = ((4, 4, 1), ((3,) * 4, (0,) * 4, (0,) * 4))
# Five things of kind 1, to the last of which two of kind 0 are led: 5 * 5 * 5 * 2 ** 4 maps.
CROWN = ((2, 5, 1), ((4, 4), (0,) * 5, (0, 0)))
# Beside it one thing of each kind, and so one map more.
CROWN_AND_ONE = ((3, 6, 2), ((4, 4, 5), (0, 0, 0, 0, 0, 1), (0, 0, 1)))

# Two sorts of arrows (kinds 0 and 1) between points (kind 2).
COLOURS = (3, ((0, 2), (0, 2), (1, 2), (1, 2)), {})
# From each of points 0 to 3 an arrow to each of points 4 to 7.
BRIDGES = ((8, 8, 8), ((0, 0, 0, 0, 1, 1, 1, 1), (4, 5, 6, 7) * 2, (2, 2, 2, 2, 3, 3, 3, 3), (4, 5, 6, 7) * 2))
# All arrows from point 0: sixty of each sort, one to each other point.
STAR = ((60, 60, 61), ((0,) * 60, tuple(range(1, 61)), (0,) * 60, tuple(range(1, 61))))

TOLD = (
    (PLAIN, ((2,), ()), ((2,), ()), [((0, 0),), ((0, 1),), ((1, 0),), ((1, 1),)]),
    (PLAIN_TWO, ((1, 1), ()), ((2, 1), ()), [((0,), (0,)), ((1,), (0,))]),
    (PLAIN_TWO, ((0, 2), ()), ((3, 2), ()), [((), (0, 0)), ((), (0, 1)), ((), (1, 0)), ((), (1, 1))]),
    (GRAPH, ARROW, ARROWS, [((0,), (0, 1)), ((1,), (1, 1)), ((2,), (1, 0))]),
    (GRAPH, ARROWS, ARROWS, [((0, 1, 2), (0, 1)), ((1, 1, 1), (1, 1))]),
    (GRAPH, LOOP, ARROWS, [((1,), (1,))]),
    (GRAPH, ARROWS, LOOP, [((0, 0, 0), (0, 0))]),
    (GRAPH, LOOP, ARROW, []),
    (GRAPH, ARROW, POINTS, []),
    (GRAPH, CIRCLE_TWO, CIRCLE_THREE, []),
    (GRAPH, CIRCLE_THREE, CIRCLE_THREE, [((0, 1, 2),) * 2, ((1, 2, 0),) * 2, ((2, 0, 1),) * 2]),
    (GRAPH, CIRCLE_SIX, CIRCLE_TWO, [((0, 1) * 3,) * 2, ((1, 0) * 3,) * 2]),
    (FLIP, FLIPPED, FLIPPED, [((0, 1, 2),), ((1, 0, 2),), ((2, 2, 2),)]),
    (FLIP, ((1,), ((0,),)), ((2,), ((1, 0),)), []),
    (REST, ((2,), ((0, 0),)), RESTED, [((1, 1),), ((1, 3),), ((2, 0),), ((2, 2),)]),
    (TURN, TURNED, TURNED, [((0, 1, 2, 3),), ((1, 2, 0, 3),), ((2, 0, 1, 3),), ((3, 3, 3, 3),)]),
    (LOOPS, LOOPED, LOOPED, [((0, 0, 0), (0, 0)), ((0, 1, 2), (0, 1)), ((2, 2, 2), (1, 1))]),
)


def from_each_to_each_other(many):
    """So many points with an arrow from each to each other one, but none to itself."""
    ends = list(itertools.permutations(range(many), 2))
    return ((len(ends), many), (tuple([one for one, other in ends]), tuple([other for one, other in ends])))


class AllMaps(unittest.TestCase):
    """[30] All maps, how many they are, and the first one."""

    def assert_told(self, sample, one, other, wanted):
        pattern = made(sample)
        with self.subTest(sample=sample, one=one, other=other):
            self.assertEqual(maps(pattern, one, other), wanted)
            self.assertEqual(many_maps(pattern, one, other), len(wanted))
            self.assertEqual(first_map(pattern, one, other), wanted[0] if wanted else None)

    def test_written_out(self):
        for sample, one, other, wanted in TOLD:
            self.assert_told(sample, one, other, wanted)

    def test_of_a_world_without_things(self):
        for sample, world in RIGHT:
            empty = ((),) * sample[0]
            self.assert_told(sample, nothing_of(sample), world, [empty])
            self.assert_told(sample, nothing_of(sample), nothing_of(sample), [empty])

    def test_into_a_world_without_things(self):
        for sample, world in RIGHT:
            self.assert_told(sample, world, nothing_of(sample), [])

    def test_into_the_world_of_one_thing_of_each_kind(self):
        for sample, world in RIGHT:
            other = ((1,) * sample[0], ((0,),) * len(sample[1]))
            self.assert_told(sample, world, other, [tuple([(0,) * size for size in world[0]])])

    def test_where_a_kind_has_no_things(self):
        self.assert_told(PLAIN_TWO, ((1, 0), ()), ((2, 0), ()), [((0,), ()), ((1,), ())])
        self.assert_told(PLAIN_TWO, ((1, 1), ()), ((2, 0), ()), [])
        self.assert_told(PLAIN_TWO, ((1, 1), ()), ((0, 2), ()), [])
        self.assert_told(PLAIN_THREE, ((0, 1, 0), ()), ((3, 2, 0), ()), [((), (0,), ()), ((), (1,), ())])

    def test_against_a_slow_search(self):
        for sample in ALL:
            for one, other in some_pairs(sample):
                self.assert_told(sample, one, other, slow_maps(sample, one, other))

    def test_worlds_of_three_things_against_a_slow_search(self):
        asked = ((FLIP, (3,)), (REST, (3,)), (TURN, (3,)), (GRAPH, (2, 3)), (GRAPH, (3, 2)), (CHAIN, (2, 3, 1)))
        for sample, sizes in asked:
            worlds = worlds_of(sample, sizes)
            pairs = [(one, other) for one in worlds for other in worlds]
            for one, other in pairs[::max(1, len(pairs) // 60)]:
                self.assert_told(sample, one, other, slow_maps(sample, one, other))

    def test_the_sample_worlds_against_a_slow_search(self):
        for sample, world in RIGHT[1:]:
            self.assert_told(sample, world, world, slow_maps(sample, world, world))

    def test_things_that_lead_to_one_another(self):
        # Each thing of these comes behind each other one.
        self.assert_told(FLIP, ((4,), ((3, 2, 1, 0),)), ((2,), ((1, 0),)), [
            ((0, 0, 1, 1),), ((0, 1, 0, 1),), ((1, 0, 1, 0),), ((1, 1, 0, 0),),
        ])

    def test_a_thing_below_that_comes_first_in_the_order(self):
        # Thing 0 is where the others are led, so that they tell where it is led.
        self.assert_told(REST, ((3,), ((0, 0, 0),)), ((3,), ((1, 1, 2),)), [
            ((1, 0, 0),), ((1, 0, 1),), ((1, 1, 0),), ((1, 1, 1),), ((2, 2, 2),),
        ])

    def test_two_ways_that_lead_to_one_thing(self):
        pattern = made(GRAPH)
        loops = ((2, 2), ((0, 1), (0, 1)))
        other = ((4, 3), ((0, 0, 2, 1), (0, 1, 2, 0)))
        self.assertEqual(many_maps(pattern, loops, other), 4)
        self.assertEqual(maps(pattern, loops, other), slow_maps(GRAPH, loops, other))

    def test_kinds_of_what_is_told(self):
        for sample, one, other, wanted in TOLD:
            pattern = made(sample)
            told = maps(pattern, one, other)
            with self.subTest(sample=sample, one=one, other=other):
                self.assertIs(type(told), list)
                self.assertIs(type(many_maps(pattern, one, other)), int)
                for some in told + [first_map(pattern, one, other)] * min(1, len(told)):
                    self.assertIs(type(some), tuple)
                    self.assertEqual([type(row) for row in some], [tuple] * sample[0])
                    self.assertEqual([goal for row in some for goal in row if type(goal) is not int], [])


class TooManyMaps(unittest.TestCase):
    """[30] More than 2000 maps are refused, but they are counted, and the first one is told."""

    def assert_refused(self, sample, one, other, many, first):
        pattern = made(sample)
        with self.subTest(sample=sample, one=one, other=other):
            assert_refused(self, errors.TooMany, lambda: maps(pattern, one, other))
            self.assertEqual(many_maps(pattern, one, other), many)
            self.assertIs(type(many_maps(pattern, one, other)), int)
            self.assertEqual(first_map(pattern, one, other), first)

    def assert_just_2000(self, sample, one, other):
        pattern = made(sample)
        told = maps(pattern, one, other)
        with self.subTest(sample=sample, one=one, other=other):
            self.assertEqual(len(told), 2000)
            self.assertEqual(told, sorted(set(told)))
            self.assertEqual([some for some in told if not is_map(pattern, one, other, some)], [])
            self.assertEqual(many_maps(pattern, one, other), 2000)
            self.assertEqual(first_map(pattern, one, other), told[0])

    def test_just_2000_are_told(self):
        self.assert_just_2000(PLAIN_TWO, ((3, 4), ()), ((5, 2), ()))
        self.assert_just_2000(PLAIN_THREE, ((2, 1, 4), ()), ((5, 5, 2), ()))
        self.assert_just_2000(CHAIN, TREE, CROWN)
        self.assert_just_2000(PLAIN, ((1,), ()), ((2000,), ()))

    def test_2001_are_refused(self):
        self.assert_refused(CHAIN, TREE, CROWN_AND_ONE, 2001, ((0, 0, 0, 0), (0, 0, 0, 4), (0,)))
        self.assert_refused(PLAIN_THREE, ((1, 1, 1), ()), ((3, 23, 29), ()), 2001, ((0,), (0,), (0,)))
        self.assert_refused(PLAIN, ((1,), ()), ((2001,), ()), 2001, ((0,),))

    def test_somewhat_more_are_refused(self):
        self.assert_refused(PLAIN, ((4,), ()), ((7,), ()), 2401, ((0, 0, 0, 0),))
        self.assert_refused(PLAIN_TWO, ((3, 1), ()), ((7, 6), ()), 2058, ((0, 0, 0), (0,)))
        self.assert_refused(FLIP, ((8,), ((1, 0, 3, 2, 5, 4, 7, 6),)), ((7,), ((1, 0, 3, 2, 5, 4, 6),)), 2401, (
            (0, 1, 0, 1, 0, 1, 0, 1),
        ))

    def test_very_many_without_doings(self):
        world = ((8, 8, 8), ())
        self.assert_refused(PLAIN_THREE, world, world, 8 ** 24, ((0,) * 8,) * 3)
        self.assert_refused(PLAIN, ((8,), ()), ((8,), ()), 8 ** 8, ((0,) * 8,))
        self.assert_refused(PLAIN_TWO, ((8, 8), ()), ((7, 2), ()), 7 ** 8 * 2 ** 8, ((0,) * 8,) * 2)

    def test_very_many_arrows_of_one_point(self):
        loops = ((8, 1), ((0,) * 8, (0,) * 8))
        self.assert_refused(GRAPH, loops, loops, 8 ** 8, ((0,) * 8, (0,)))
        spread = ((8, 8), ((0, 1, 2, 3, 4, 5, 6, 0), (1, 2, 3, 4, 5, 6, 7, 7)))
        self.assert_refused(GRAPH, spread, loops, 8 ** 8, ((0,) * 8, (0,) * 8))

    def test_very_many_points(self):
        other = ((8, 8), ((0,) * 8, (1,) * 8))
        self.assert_refused(GRAPH, ((0, 8), ((), ())), other, 8 ** 8, ((), (0,) * 8))

    def test_nothing_is_refused_where_one_piece_has_no_map(self):
        # Eight points could go anywhere, but the arrow at a point nowhere.
        one = ((1, 8), ((7,), (7,)))
        pattern = made(GRAPH)
        other = ((8, 8), (tuple(range(8)), (1, 2, 3, 4, 5, 6, 7, 0)))
        self.assertEqual(maps(pattern, one, other), [])
        self.assertEqual(many_maps(pattern, one, other), 0)
        self.assertIsNone(first_map(pattern, one, other))
        self.assertEqual(maps(made(PLAIN_TWO), ((8, 1), ()), ((8, 0), ())), [])
        self.assertEqual(maps(made(PLAIN_TWO), ((1, 8), ()), ((0, 8), ())), [])

    def test_many_arrows_between_many_points(self):
        # Points 0 to 3 can go nowhere but to the star's point 0, the others then anywhere else.
        self.assert_refused(COLOURS, BRIDGES, STAR, 60 ** 4, ((0,) * 8, (0,) * 8, (0,) * 4 + (1,) * 4))

    def test_unlike_points_to_unlike_ones(self):
        # So many arrows bound up with one another that no few of them tell where the others can go.
        five = from_each_to_each_other(5)
        seven = from_each_to_each_other(7)
        arrows = [6 * one + other - (other > one) for one in range(5) for other in range(5) if one != other]
        self.assert_refused(GRAPH, five, seven, 7 * 6 * 5 * 4 * 3, (tuple(arrows), (0, 1, 2, 3, 4)))
        six = from_each_to_each_other(6)
        told = maps(made(GRAPH), six, six)
        self.assertEqual([some[1] for some in told], sorted(itertools.permutations(range(6))))
        self.assertEqual([some for some in told if not is_map(made(GRAPH), six, six, some)], [])
        self.assertEqual(maps(made(GRAPH), six, five), [])

    def test_the_first_is_not_the_first_of_each_thing_alone(self):
        # Arrow 0 alone could go to arrow 0, but from there no arrow leads on.
        one = ((2, 3), ((0, 1), (1, 2)))
        other = ((3, 5), ((4, 0, 1), (3, 1, 2)))
        self.assertEqual(first_map(made(GRAPH), one, other), ((1, 2), (0, 1, 2)))
        self.assertEqual(first_map(made(GRAPH), ARROW, other), ((0,), (4, 3)))

    def test_the_first_of_very_many(self):
        # Two arrows, the second ahead of the first; two more, the other way about; and two points alone.
        one = ((4, 8), ((1, 0, 4, 5), (2, 1, 5, 6)))
        other = ((3, 5), ((4, 0, 1), (3, 1, 2)))
        self.assertEqual(first_map(made(GRAPH), one, other), ((2, 1, 1, 2), (0, 1, 2, 0, 0, 1, 2, 0)))
        self.assertEqual(many_maps(made(GRAPH), one, other), 25)
        one = ((2, 8), ((0, 1), (1, 2)))
        self.assert_refused(GRAPH, one, other, 5 ** 5, ((1, 2), (0, 1, 2, 0, 0, 0, 0, 0)))


class RenumberedWorlds(unittest.TestCase):
    """[30] Other numbers of the things change nothing but the numbers in the maps."""

    def test_as_many_maps_in_their_new_order(self):
        for sample, one, other, wanted in TOLD:
            pattern = made(sample)
            here = tuple([tuple(reversed(range(size))) for size in one[0]])
            there = tuple([tuple(list(range(1, size)) + [0])[:size] for size in other[0]])
            moved = [
                tuple([
                    tuple([there[kind][row[here[kind][thing]]] for thing in range(len(row))])
                    for kind, row in enumerate(some)
                ])
                for some in wanted
            ]
            with self.subTest(sample=sample, one=one, other=other):
                told = maps(pattern, renumbered(pattern, one, here), renumbered(pattern, other, there))
                self.assertEqual(told, sorted(moved))


class NothingHangsOnIt(unittest.TestCase):
    """[1] The told list is the asker's own, and asked again the same is told."""

    def test_a_told_list_that_was_changed_is_told_again(self):
        for sample, one, other, wanted in TOLD:
            pattern = made(sample)
            with self.subTest(sample=sample, one=one, other=other):
                told = maps(pattern, one, other)
                told.insert(0, "more")
                told.reverse()
                self.assertEqual(maps(pattern, one, other), wanted)
                told.clear()
                self.assertEqual(maps(pattern, one, other), wanted)
                self.assertEqual(many_maps(pattern, one, other), len(wanted))
                self.assertEqual(first_map(pattern, one, other), wanted[0] if wanted else None)
                self.assertEqual((pattern.kinds(), pattern.doings()), sample[:2])

    def test_what_was_refused_changes_nothing(self):
        pattern = made(CHAIN)
        for time in range(2):
            assert_refused(self, errors.TooMany, lambda: maps(pattern, TREE, CROWN_AND_ONE))
            self.assertEqual(len(maps(pattern, TREE, CROWN)), 2000)
            self.assertEqual(many_maps(pattern, LINKED, LINKED), len(slow_maps(CHAIN, LINKED, LINKED)))


if __name__ == "__main__":
    unittest.main()
