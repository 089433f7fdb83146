"""Promises 20 and 21, and 1 for maps."""

import itertools
import unittest

from mapwright import errors
from mapwright.allmaps import maps
from mapwright.maps import first_lack, is_apart, is_map, is_onto, staying, then, turned_back
from mapwright.worlds import renumbered
from tests.refusals import assert_refused
from tests.samples import (
    ALL, ARROWS, CHAIN, FLIP, FLIPPED, GRAPH, LINKED, LOOPED, LOOPS, PLAIN, PLAIN_THREE, PLAIN_TWO, REST, RESTED,
    RIGHT, TURN, TURNED, made, nothing_of,
)
from tests.slow import rows_between, slow_lacks, slow_maps, small_worlds, some_pairs

# An arrow between two points, and one point with an arrow from it to itself.
ARROW = ((1, 2), ((0,), (1,)))
LOOP = ((1, 1), ((0,), (0,)))
POINTS = ((0, 3), ((), ()))

MAPS = (
    (PLAIN, ((3,), ()), ((2,), ()), ((1, 1, 0),)),
    (PLAIN_TWO, ((0, 2), ()), ((5, 1), ()), ((), (0, 0))),
    (PLAIN_THREE, ((1, 0, 2), ()), ((2, 0, 3), ()), ((1,), (), (2, 0))),
    (GRAPH, ARROW, ARROWS, ((0,), (0, 1))),
    (GRAPH, ARROW, ARROWS, ((2,), (1, 0))),
    (GRAPH, ARROW, ARROWS, ((1,), (1, 1))),
    (GRAPH, ARROWS, LOOP, ((0, 0, 0), (0, 0))),
    (GRAPH, POINTS, ARROWS, ((), (1, 0, 1))),
    (FLIP, ((2,), ((1, 0),)), FLIPPED, ((1, 0),)),
    (FLIP, ((2,), ((1, 0),)), FLIPPED, ((2, 2),)),
    (REST, ((2,), ((1, 1),)), RESTED, ((0, 2),)),
    (TURN, TURNED, TURNED, ((1, 2, 0, 3),)),
    (TURN, TURNED, TURNED, ((3, 3, 3, 3),)),
    (CHAIN, LINKED, ((1, 1, 1), ((0,), (0,), (0,))), ((0, 0), (0, 0, 0), (0, 0))),
    (LOOPS, LOOPED, LOOPED, ((0, 0, 0), (0, 0))),
    (LOOPS, LOOPED, LOOPED, ((2, 2, 2), (1, 1))),
)


class IsMap(unittest.TestCase):
    """[20] Whether a tuple of tuples of whole numbers is a map."""

    def assert_told(self, sample, one, other, some, wanted):
        with self.subTest(sample=sample, one=one, other=other, some=some):
            self.assertIs(is_map(made(sample), one, other, some), wanted)

    def test_right_maps(self):
        for sample, one, other, some in MAPS:
            self.assert_told(sample, one, other, some, True)

    def test_of_a_world_without_things(self):
        for sample, world in RIGHT:
            empty = ((),) * sample[0]
            self.assert_told(sample, nothing_of(sample), nothing_of(sample), empty, True)
            self.assert_told(sample, nothing_of(sample), world, empty, True)

    def test_into_a_world_without_things(self):
        for sample, world in RIGHT:
            zeros = tuple([(0,) * size for size in world[0]])
            self.assert_told(sample, world, nothing_of(sample), zeros, False)
            self.assert_told(sample, world, nothing_of(sample), ((),) * sample[0], False)

    def test_where_the_one_world_has_no_things_of_a_kind(self):
        self.assert_told(GRAPH, POINTS, ARROWS, ((), (0, 0, 1)), True)
        self.assert_told(GRAPH, POINTS, POINTS, ((), (2, 0, 1)), True)
        self.assert_told(GRAPH, POINTS, ARROWS, ((0,), (0, 0, 1)), False)
        self.assert_told(PLAIN_TWO, ((2, 0), ()), ((1, 0), ()), ((0, 0), ()), True)
        self.assert_told(PLAIN_TWO, ((2, 0), ()), ((0, 1), ()), ((0, 0), ()), False)

    def test_where_the_other_world_has_no_things_of_a_kind(self):
        self.assert_told(GRAPH, ARROW, POINTS, ((0,), (0, 1)), False)
        self.assert_told(GRAPH, ARROW, POINTS, ((), (0, 1)), False)
        self.assert_told(CHAIN, ((0, 2, 1), ((), (0, 0), ())), ((0, 1, 1), ((), (0,), ())), ((), (0, 0), (0,)), True)

    def test_a_row_more_or_less(self):
        for sample, one, other, some in MAPS:
            for row in ((), (0,)):
                self.assert_told(sample, one, other, some + (row,), False)
                self.assert_told(sample, one, other, (row,) + some, False)
            self.assert_told(sample, one, other, some[:-1], False)
            self.assert_told(sample, one, other, some[1:], False)
            self.assert_told(sample, one, other, (), False)
        for sample in ALL:
            world = nothing_of(sample)
            self.assert_told(sample, world, world, ((),) * (sample[0] + 1), False)
            self.assert_told(sample, world, world, ((),) * (sample[0] - 1), False)

    def test_a_row_longer_or_shorter(self):
        for sample, one, other, some in MAPS:
            for kind, row in enumerate(some):
                wrong = [row + (0,), row + row[:1] + (0,), (0,) + row]
                if row:
                    wrong.extend([row[:-1], row[1:], ()])
                for changed in wrong:
                    self.assert_told(sample, one, other, some[:kind] + (changed,) + some[kind + 1:], False)

    def test_a_number_beyond_or_below_nought(self):
        for sample, one, other, some in MAPS:
            for kind, row in enumerate(some):
                size = other[0][kind]
                for place, goal in enumerate(row):
                    for number in (size, size + 4, -1, -size, goal - size, 10 ** 20, -(10 ** 20)):
                        changed = row[:place] + (number,) + row[place + 1:]
                        self.assert_told(sample, one, other, some[:kind] + (changed,) + some[kind + 1:], False)

    def test_numbers_by_which_a_doing_does_not_go_along(self):
        self.assert_told(GRAPH, ARROW, ARROWS, ((0,), (0, 0)), False)
        self.assert_told(GRAPH, ARROW, ARROWS, ((0,), (1, 1)), False)
        self.assert_told(GRAPH, ARROW, ARROWS, ((0,), (1, 0)), False)
        self.assert_told(FLIP, ((2,), ((1, 0),)), FLIPPED, ((0, 0),), False)
        self.assert_told(FLIP, ((1,), ((0,),)), FLIPPED, ((0,),), False)
        self.assert_told(REST, ((2,), ((1, 1),)), RESTED, ((2, 0),), False)
        self.assert_told(TURN, TURNED, TURNED, ((1, 0, 2, 3),), False)
        self.assert_told(LOOPS, LOOPED, LOOPED, ((1, 1, 1), (0, 0)), False)

    def test_into_a_world_of_more_than_eight_things(self):
        other = ((20,), (tuple([thing ^ 1 for thing in range(20)]),))
        self.assert_told(FLIP, ((2,), ((1, 0),)), other, ((18, 19),), True)
        self.assert_told(FLIP, ((2,), ((1, 0),)), other, ((17, 18),), False)

    def test_all_small_tuples_against_a_slow_search(self):
        for sample in (PLAIN_TWO, GRAPH, FLIP, REST, CHAIN):
            pattern = made(sample)
            for one, other in some_pairs(sample, limit=60):
                right = set(slow_maps(sample, one, other))
                rows = [
                    itertools.product(range(-1, goals + 1), repeat=size) for size, goals in zip(one[0], other[0])
                ]
                for some in itertools.product(*rows):
                    if is_map(pattern, one, other, some) is not (some in right):
                        self.fail((sample, one, other, some))


class FirstLack(unittest.TestCase):
    """[20] The first doing, and for it the least thing, at which it doesn't go along."""

    def assert_told(self, sample, one, other, some, wanted):
        with self.subTest(sample=sample, one=one, other=other, some=some):
            told = first_lack(made(sample), one, other, some)
            self.assertEqual(told, wanted)
            if wanted is not None:
                self.assertIs(type(told), tuple)

    def test_none_of_a_map(self):
        for sample, one, other, some in MAPS:
            with self.subTest(sample=sample, some=some):
                self.assertIsNone(first_lack(made(sample), one, other, some))

    def test_none_without_doings_or_things(self):
        self.assertIsNone(first_lack(made(PLAIN), ((2,), ()), ((3,), ()), ((2, 0),)))
        for sample in ALL:
            with self.subTest(sample=sample):
                world = nothing_of(sample)
                self.assertIsNone(first_lack(made(sample), world, world, ((),) * sample[0]))

    def test_the_first_doing_of_several(self):
        self.assert_told(GRAPH, ARROW, ARROWS, ((0,), (1, 0)), (0, 0))
        self.assert_told(GRAPH, ARROW, ARROWS, ((0,), (0, 0)), (1, 0))

    def test_the_first_doing_though_a_later_one_lacks_a_lesser_thing(self):
        one = ((2, 4), ((0, 1), (2, 3)))
        other = ((1, 2), ((0,), (1,)))
        self.assert_told(GRAPH, one, other, ((0, 0), (0, 1, 0, 0)), (0, 1))
        self.assert_told(GRAPH, one, other, ((0, 0), (0, 0, 0, 1)), (1, 0))
        self.assert_told(GRAPH, one, other, ((0, 0), (0, 0, 1, 0)), (1, 1))

    def test_the_least_thing_of_several(self):
        one = ((4,), ((0, 1, 2, 3),))
        self.assert_told(FLIP, one, FLIPPED, ((2, 1, 2, 0),), (0, 1))
        self.assert_told(FLIP, one, FLIPPED, ((2, 2, 2, 0),), (0, 3))
        self.assert_told(FLIP, one, FLIPPED, ((0, 1, 1, 0),), (0, 0))

    def test_a_doing_between_kinds_tells_of_the_kind_from_which_it_is(self):
        one = ((1, 3, 1), ((2,), (0, 0, 0), (0,)))
        other = ((1, 2, 2), ((0,), (1, 0), (1,)))
        self.assert_told(CHAIN, one, other, ((0,), (0, 1, 0), (1,)), (1, 1))
        self.assert_told(CHAIN, one, other, ((0,), (0, 0, 0), (1,)), None)
        self.assert_told(CHAIN, one, other, ((0,), (0, 0, 1), (1,)), (0, 0))

    def test_against_a_slow_search(self):
        for sample in ALL:
            pattern = made(sample)
            for one, other in some_pairs(sample, limit=60):
                for some in rows_between(one, other):
                    lacks = slow_lacks(sample, one, other, some)
                    if first_lack(pattern, one, other, some) != (lacks[0] if lacks else None):
                        self.fail((sample, one, other, some))


class Staying(unittest.TestCase):
    """[21] The map that leads each thing to itself."""

    def test_worlds_without_things(self):
        for sample in ALL:
            with self.subTest(sample=sample):
                self.assertEqual(staying(nothing_of(sample)), ((),) * sample[0])

    def test_written_out(self):
        self.assertEqual(staying(((5,), ())), ((0, 1, 2, 3, 4),))
        self.assertEqual(staying(((1, 0, 2), ())), ((0,), (), (0, 1)))
        self.assertEqual(staying(ARROWS), ((0, 1, 2), (0, 1)))
        self.assertEqual(staying(FLIPPED), ((0, 1, 2),))

    def test_it_is_a_map_apart_and_onto(self):
        for sample, world in RIGHT:
            with self.subTest(sample=sample):
                self.assertTrue(is_map(made(sample), world, world, staying(world)))
                self.assertTrue(is_apart(staying(world)))
                self.assertTrue(is_onto(world, staying(world)))
                self.assertEqual(turned_back(world, staying(world)), staying(world))

    def test_tuples_of_tuples(self):
        for sample, world in RIGHT:
            with self.subTest(sample=sample):
                assert_tuples(self, sample, staying(world))


class Then(unittest.TestCase):
    """[21] First a map and then another one."""

    def test_written_out(self):
        self.assertEqual(then(((1, 1, 0),), ((3, 4),)), ((4, 4, 3),))
        self.assertEqual(then(((0,), (0, 1)), ((2, 0, 1), (5, 3))), ((2,), (5, 3)))
        self.assertEqual(then(((), (2, 0)), ((), (1, 1, 4))), ((), (4, 1)))
        self.assertEqual(then(((1, 2, 0),), ((0, 0, 1),)), ((0, 1, 0),))
        self.assertEqual(then(((), ()), ((), ())), ((), ()))
        self.assertEqual(then(((), ()), ((1, 0), (0,))), ((), ()))

    def test_staying_ahead_and_behind(self):
        for sample, one, other, some in MAPS:
            with self.subTest(sample=sample, some=some):
                self.assertEqual(then(staying(one), some), some)
                self.assertEqual(then(some, staying(other)), some)

    def test_of_two_maps_it_is_a_map(self):
        for sample in ALL:
            pattern = made(sample)
            for one, other in some_pairs(sample, limit=40):
                for last in (one, other):
                    for some, more in itertools.product(maps(pattern, one, other), maps(pattern, other, last)):
                        both = then(some, more)
                        self.assertTrue(is_map(pattern, one, last, both))
                        assert_tuples(self, sample, both)

    def test_of_three_in_either_grouping(self):
        for sample in (PLAIN_TWO, GRAPH, FLIP, REST, CHAIN):
            pattern = made(sample)
            for one, other in some_pairs(sample, limit=30):
                ahead = maps(pattern, one, other)
                back = maps(pattern, other, one)
                for some, more, last in itertools.product(ahead[:6], back[:6], ahead[:6]):
                    self.assertEqual(then(then(some, more), last), then(some, then(more, last)))

    def test_things_are_led_by_the_first_and_then_by_the_second(self):
        world = ((3,), ())
        some = ((1, 2, 0),)
        more = ((1, 0, 2),)
        self.assertEqual(then(some, more), ((0, 2, 1),))
        self.assertEqual(then(more, some), ((2, 1, 0),))
        self.assertTrue(is_map(made(PLAIN), world, world, then(some, more)))


class ApartAndOnto(unittest.TestCase):
    """[21] Maps that lead unlike things to unlike ones, and maps that lead some thing to each."""

    TOLD = (
        # The other world, a map into it, apart, onto.
        (((3,), ()), ((1, 2, 0),), True, True),
        (((3,), ()), ((1, 2),), True, False),
        (((2,), ()), ((1, 0, 1),), False, True),
        (((3,), ()), ((1, 0, 1),), False, False),
        (((1,), ()), ((0, 0),), False, True),
        (((0,), ()), ((),), True, True),
        (((1,), ()), ((),), True, False),
        (((2, 2), ()), ((0, 1), (1, 0)), True, True),
        (((2, 2), ()), ((0, 1), (0, 0)), False, False),
        (((2, 2), ()), ((0, 0), (0, 1)), False, False),
        (((2, 1), ()), ((0, 1), (0, 0)), False, True),
        (((1, 2), ()), ((0, 0), (0, 1)), False, True),
        (((2, 3), ()), ((0, 1), (0, 1)), True, False),
        (((3, 2), ()), ((0, 1), (0, 1)), True, False),
        (((2, 0), ()), ((1, 0), ()), True, True),
        (((0, 2), ()), ((), (1, 0)), True, True),
        (((0, 2), ()), ((), (1, 1)), False, False),
        (((3, 2), ()), ((), (1, 0)), True, False),
        (((0, 1, 0), ()), ((), (0,), ()), True, True),
        (((0, 1, 1), ()), ((), (0,), ()), True, False),
        (((0, 0, 0), ()), ((), (), ()), True, True),
        # One kind is more than apart and another less than onto, so that sums would tell nothing.
        (((1, 3), ()), ((0, 0), (0, 1)), False, False),
        (ARROWS, ((0,), (0, 1)), True, False),
        (LOOP, ((0, 0, 0), (0, 0)), False, True),
        (FLIPPED, ((2, 2),), False, False),
    )

    def test_told(self):
        for other, some, apart, onto in self.TOLD:
            with self.subTest(other=other, some=some):
                self.assertIs(is_apart(some), apart)
                self.assertIs(is_onto(other, some), onto)

    def test_against_a_slow_search(self):
        for sample in (PLAIN_TWO, GRAPH, FLIP, REST, CHAIN):
            for one, other in some_pairs(sample, limit=60):
                for some in slow_maps(sample, one, other):
                    apart = all([len([1 for goal in row if goal == found]) == 1 for row in some for found in row])
                    onto = all([goal in row for row, size in zip(some, other[0]) for goal in range(size)])
                    with self.subTest(sample=sample, one=one, other=other, some=some):
                        self.assertIs(is_apart(some), apart)
                        self.assertIs(is_onto(other, some), onto)


class TurnedBack(unittest.TestCase):
    """[21] A map that is both leads back; another one is refused with NoMap."""

    def test_written_out(self):
        self.assertEqual(turned_back(((3,), ()), ((1, 2, 0),)), ((2, 0, 1),))
        self.assertEqual(turned_back(((4,), ()), ((2, 0, 3, 1),)), ((1, 3, 0, 2),))
        self.assertEqual(turned_back(((2, 0, 3), ()), ((1, 0), (), (2, 0, 1))), ((1, 0), (), (1, 2, 0)))
        self.assertEqual(turned_back(((0, 0), ()), ((), ())), ((), ()))
        self.assertEqual(turned_back(TURNED, ((1, 2, 0, 3),)), ((2, 0, 1, 3),))

    def test_there_and_back(self):
        for sample, world in RIGHT:
            pattern = made(sample)
            orders = tuple([tuple(list(range(1, size)) + [0])[:size] for size in world[0]])
            other = renumbered(pattern, world, orders)
            with self.subTest(sample=sample):
                self.assertTrue(is_map(pattern, world, other, orders))
                back = turned_back(other, orders)
                assert_tuples(self, sample, back)
                self.assertTrue(is_map(pattern, other, world, back))
                self.assertEqual(then(orders, back), staying(world))
                self.assertEqual(then(back, orders), staying(other))
                self.assertEqual(turned_back(world, back), orders)

    def test_others_are_refused(self):
        for other, some, apart, onto in ApartAndOnto.TOLD:
            with self.subTest(other=other, some=some):
                if apart and onto:
                    self.assertEqual(then(some, turned_back(other, some)), staying(other))
                else:
                    assert_refused(self, errors.NoMap, lambda: turned_back(other, some))

    def test_all_small_maps(self):
        for sample in (PLAIN_TWO, GRAPH, FLIP, REST, CHAIN, LOOPS):
            pattern = made(sample)
            for one, other in some_pairs(sample, limit=60):
                backs = set(slow_maps(sample, other, one))
                for some in slow_maps(sample, one, other):
                    there_and_back = [
                        back for back in backs
                        if then(some, back) == staying(one) and then(back, some) == staying(other)
                    ]
                    with self.subTest(sample=sample, one=one, other=other, some=some):
                        if there_and_back:
                            self.assertEqual([turned_back(other, some)], there_and_back)
                            self.assertTrue(is_map(pattern, other, one, turned_back(other, some)))
                        else:
                            assert_refused(self, errors.NoMap, lambda: turned_back(other, some))


class NothingHangsOnIt(unittest.TestCase):
    """[1] The pattern that is handed in stays, and asked again the same is told."""

    def told(self, pattern, one, other, some):
        return (
            is_map(pattern, one, other, some), first_lack(pattern, one, other, some), staying(one),
            then(some, staying(other)), is_apart(some), is_onto(other, some),
        )

    def test_asked_again_the_same_is_told(self):
        for sample, one, other, some in MAPS:
            pattern = made(sample)
            with self.subTest(sample=sample, some=some):
                ahead = self.told(pattern, one, other, some)
                for lesser in small_worlds(sample, 1):
                    first_lack(pattern, lesser, lesser, staying(lesser))
                self.assertEqual(self.told(pattern, one, other, some), ahead)
                self.assertEqual((pattern.kinds(), pattern.doings()), sample[:2])

    def test_what_was_refused_changes_nothing(self):
        for time in range(2):
            assert_refused(self, errors.NoMap, lambda: turned_back(((2,), ()), ((0, 0),)))
            self.assertEqual(turned_back(((2,), ()), ((1, 0),)), ((1, 0),))


def assert_tuples(test, sample, some):
    """A map is told as a tuple with a tuple of whole numbers for each kind."""
    test.assertIs(type(some), tuple)
    test.assertEqual([type(row) for row in some], [tuple] * sample[0])
    test.assertEqual([goal for row in some for goal in row if type(goal) is not int], [])


if __name__ == "__main__":
    unittest.main()
