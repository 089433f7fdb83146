"""Promise 30 with 12: the first map, all maps, and how many, where told worlds are handed in."""

import itertools
import resource
import unittest

from mapwright import errors
from mapwright.allmaps import first_map, many_maps, maps
from mapwright.joins import nothing, one_thing, product, sum_of
from mapwright.maps import is_map
from mapwright.parts import drawn
from mapwright.powers import power
from mapwright.seeds import seed
from mapwright.truths import character, truths
from tests.refusals import assert_refused
from tests.samples import ALL, FIRST, GRAPH, LAST, LOOPED, LOOPS, PLAIN, RIGHT, TURN_SIX, empty_part, made

ROOM = 3 * 2 ** 30

# Five doings from kind 0 to kind 1, none of which meet, and two worlds of them without any order.
FIVE = (2, ((0, 1),) * 5, {})
ONE_OF_FIVE = ((8, 8), (
    (2, 1, 4, 1, 7, 7, 7, 6), (3, 1, 7, 0, 6, 6, 0, 7), (4, 3, 1, 5, 0, 0, 0, 0), (6, 3, 6, 0, 3, 7, 7, 3),
    (5, 3, 3, 7, 4, 0, 6, 1),
))
OTHER_OF_FIVE = ((8, 8), (
    (2, 4, 1, 5, 6, 3, 4, 4), (7, 6, 0, 7, 3, 6, 6, 2), (5, 5, 1, 7, 1, 2, 6, 5), (7, 0, 7, 0, 4, 6, 2, 2),
    (3, 0, 3, 3, 6, 5, 5, 7),
))
# Three doings of one thing each, and things that lead to three.
THREE = (2, ((0, 1),) * 3, {})
ONE_OF_THREE = ((8, 8), ((0, 1, 2, 3, 4, 5, 6, 7), (1, 2, 3, 4, 5, 6, 7, 0), (3, 0, 5, 2, 7, 4, 1, 6)))
OTHER_OF_THREE = ((7, 6), ((0, 1, 2, 3, 4, 5, 0), (5, 3, 1, 0, 2, 4, 2), (1, 2, 0, 5, 3, 4, 4)))

# Point 0 and 1 each led to the other; three points, each led to both others.
TO_AND_FRO = ((2, 2), ((0, 1), (1, 0)))
THREE_POINTS = ((6, 3), ((0, 0, 1, 1, 2, 2), (1, 2, 0, 2, 0, 1)))


def world_by_rows(rows, many):
    """The world of so many things of kind 1 and a thing of kind 0 for each row of things to which doings lead it."""
    return ((len(rows), many), tuple(zip(*rows)))


# Of three things of kind 1, each 0 or 1, just one is 1; not all are alike; their sum is odd.
JUST_ONE = world_by_rows([(0, 0, 1), (0, 1, 0), (1, 0, 0)], 2)
NOT_ALL = world_by_rows([row for row in itertools.product(range(2), repeat=3) if len(set(row)) == 2], 2)
ODD = world_by_rows([row for row in itertools.product(range(2), repeat=3) if sum(row) % 2], 2)


class ToldWorlds(unittest.TestCase):
    def setUp(self):
        # Else a search that asks for ever more memory would stop the machine.
        self.before = resource.getrlimit(resource.RLIMIT_AS)
        resource.setrlimit(resource.RLIMIT_AS, (ROOM, self.before[1]))

    def tearDown(self):
        resource.setrlimit(resource.RLIMIT_AS, self.before)

    def assert_first(self, sample, one, other, wanted):
        with self.subTest(sample=sample, one=one[0], other=other[0]):
            self.assertEqual(first_map(made(sample), one, other), wanted)
            if wanted is not None:
                self.assertTrue(is_map(made(sample), one, other, wanted))

    def test_into_the_truths(self):
        # The crowd without ways comes first in each kind, so the first map is the character of the part without things.
        for sample, one, other in ((FIVE, ONE_OF_FIVE, OTHER_OF_FIVE), (THREE, ONE_OF_THREE, OTHER_OF_THREE)):
            pattern = made(sample)
            whole = product(pattern, one, other)[0]
            told = truths(pattern)[0]
            self.assert_first(sample, told, told, tuple([(0,) * size for size in told[0]]))
            for world in (whole, sum_of(pattern, whole, one)[0], product(pattern, whole, one)[0]):
                self.assert_first(sample, world, told, tuple([(0,) * size for size in world[0]]))
                assert_refused(self, errors.TooMany, lambda: maps(pattern, world, told))

    def test_into_the_truths_in_each_pattern(self):
        for sample, world in RIGHT:
            pattern = made(sample)
            whole = product(pattern, world, world)[0]
            for one in (whole, sum_of(pattern, whole, world)[0], product(pattern, whole, truths(pattern)[0])[0]):
                self.assert_first(sample, one, truths(pattern)[0], character(pattern, one, empty_part(sample)))

    def test_of_the_truths(self):
        # The crowd without ways is led to itself by all doings, so that all may go there.
        for sample in ALL + (FIRST, LAST):
            pattern = made(sample)
            told = truths(pattern)[0]
            self.assert_first(sample, told, told, tuple([(0,) * size for size in told[0]]))
            self.assert_first(sample, told, sum_of(pattern, told, told)[0], tuple([(0,) * size for size in told[0]]))
            pairs = product(pattern, told, told)[0]
            self.assert_first(sample, pairs, told, tuple([(0,) * size for size in pairs[0]]))

    def test_of_worlds_of_all_maps(self):
        pattern = made(GRAPH)
        point = seed(pattern, 1)
        arrow = seed(pattern, 0)
        told = power(pattern, point, ((0, 7), ((), ())))[0]
        self.assertEqual(told[0], (49, 7))
        self.assert_first(GRAPH, told, told, ((0,) * 49, (0,) * 7))
        self.assert_first(GRAPH, told, truths(pattern)[0], ((0,) * 49, (0,) * 7))
        self.assert_first(GRAPH, told, product(pattern, told, told)[0], ((0,) * 49, (0,) * 7))
        # An arrow from each point to each, so also to itself, but no arrow of these is so.
        self.assert_first(GRAPH, told, arrow, None)
        self.assert_first(GRAPH, told, product(pattern, THREE_POINTS, TO_AND_FRO)[0], None)
        self.assert_first(GRAPH, arrow, told, ((0,), (0, 0)))
        self.assert_first(PLAIN, power(made(PLAIN), ((2,), ()), ((7,), ()))[0], ((3,), ()), ((0,) * 49,))

    def test_into_a_product_the_first_is_put_together_of_the_first_ones(self):
        for sample, one, other in ((FIVE, ONE_OF_FIVE, OTHER_OF_FIVE), (THREE, ONE_OF_THREE, OTHER_OF_THREE)):
            pattern = made(sample)
            whole = product(pattern, one, other)[0]
            first = first_map(pattern, whole, one)
            again = first_map(pattern, whole, other)
            self.assertEqual((first is None, again is None), (False, False))
            pairs = tuple([
                tuple([here * many + there for here, there in zip(row, more)])
                for row, more, many in zip(first, again, other[0])
            ])
            # Either of two maps may go with each other one, so the first ones make the first pairs.
            self.assert_first(sample, whole, whole, pairs)

    def test_none_at_all(self):
        pattern = made(THREE)
        whole = product(pattern, ONE_OF_THREE, OTHER_OF_THREE)[0]
        loop = one_thing(pattern)
        for world in (JUST_ONE, NOT_ALL, product(pattern, JUST_ONE, NOT_ALL)[0], ((0, 5), ((), (), ()))):
            # What leads one thing thrice to one thing goes nowhere; so neither does a sum with it.
            self.assert_first(THREE, sum_of(pattern, whole, loop)[0], world, None)
            self.assert_first(THREE, sum_of(pattern, loop, whole)[0], world, None)
            self.assertEqual(maps(pattern, sum_of(pattern, whole, loop)[0], world), [])
            self.assertEqual(many_maps(pattern, sum_of(pattern, whole, loop)[0], world), 0)
        self.assert_first(THREE, whole, nothing(pattern), None)
        self.assert_first(THREE, nothing(pattern), whole, ((), ()))

    def test_none_but_not_for_one_thing_alone(self):
        # Three points that are led to one another go not into two; so neither does a product of such.
        pattern = made(GRAPH)
        whole = product(pattern, THREE_POINTS, THREE_POINTS)[0]
        self.assert_first(GRAPH, whole, TO_AND_FRO, None)
        self.assert_first(GRAPH, product(pattern, whole, THREE_POINTS)[0], TO_AND_FRO, None)
        self.assert_first(GRAPH, sum_of(pattern, TO_AND_FRO, whole)[0], TO_AND_FRO, None)
        self.assertEqual(maps(pattern, whole, TO_AND_FRO), [])
        # Into three points it goes by one of the two that it is put together of, and by no other map.
        self.assertEqual(many_maps(pattern, whole, THREE_POINTS), 12)
        self.assert_first(GRAPH, whole, THREE_POINTS, maps(pattern, whole, THREE_POINTS)[0])

    def test_what_hinders_lies_far_behind(self):
        # Forty points, one behind the other, of which the last is one of four that are all led to one another.
        pattern = made(GRAPH)
        ends = list(itertools.permutations(range(4), 2))
        four = world_by_rows(ends, 4)
        path = world_by_rows([(point, point + 1) for point in range(39)], 40)
        whole = drawn(pattern, sum_of(pattern, path, four)[0], [(1, 39, 40)])[0]
        self.assertEqual(whole[0], (39 + 12, 43))
        self.assert_first(GRAPH, whole, THREE_POINTS, None)
        self.assertEqual(maps(pattern, whole, THREE_POINTS), [])
        self.assertEqual(many_maps(pattern, whole, THREE_POINTS), 0)
        # Into four such points the path goes to and fro at first, and then so that the others can go.
        first = first_map(pattern, whole, four)
        self.assertTrue(is_map(pattern, whole, four, first))
        self.assertEqual(first[1][:40], (0, 1) * 20)
        self.assertEqual(first[1][40:], (0, 2, 3))
        self.assertEqual(many_maps(pattern, whole, four), 24 * 3 ** 39)

    def test_the_first_is_that_of_all_maps(self):
        pattern = made(THREE)
        whole = product(pattern, ONE_OF_THREE, ONE_OF_THREE)[0]
        asked = 0
        for world in (JUST_ONE, NOT_ALL, ODD, ONE_OF_THREE, OTHER_OF_THREE, product(pattern, ODD, JUST_ONE)[0]):
            for one in (whole, ONE_OF_THREE, sum_of(pattern, ONE_OF_THREE, OTHER_OF_THREE)[0]):
                told = maps_or_none(pattern, one, world)
                if told is not None:
                    asked += 1
                    self.assertEqual(many_maps(pattern, one, world), len(told))
                    self.assert_first(THREE, one, world, told[0] if told else None)
        self.assertGreater(asked, 8)

    def test_the_first_of_a_sum_is_that_of_each(self):
        for sample, world in RIGHT:
            pattern = made(sample)
            whole = product(pattern, world, world)[0]
            here = first_map(pattern, whole, world)
            there = first_map(pattern, world, world)
            wanted = tuple([row + more for row, more in zip(here, there)])
            self.assert_first(sample, sum_of(pattern, whole, world)[0], world, wanted)

    def test_large_products(self):
        pattern = made(LOOPS)
        whole = product(pattern, LOOPED, LOOPED)[0]
        whole = product(pattern, whole, whole)[0]
        self.assertEqual(whole[0], (81, 16))
        self.assert_first(LOOPS, whole, whole, ((0,) * 81, (0,) * 16))
        self.assert_first(LOOPS, whole, truths(pattern)[0], ((0,) * 81, (0,) * 16))
        pattern = made(TURN_SIX)
        turned = product(pattern, seed(pattern, 0), seed(pattern, 0))[0]
        self.assertEqual(turned[0], (36,))
        self.assertEqual(many_maps(pattern, turned, turned), 36 ** 6)
        self.assert_first(TURN_SIX, turned, one_thing(pattern), ((0,) * 36,))
        self.assert_first(TURN_SIX, one_thing(pattern), turned, None)
        self.assert_first(PLAIN, ((4096,), ()), ((4096,), ()), ((0,) * 4096,))
        self.assertEqual(many_maps(made(PLAIN), ((512,), ()), ((512,), ())), 512 ** 512)

    def test_very_many_parts_are_counted(self):
        # A thing of kind 0 lies in a part only with those of kind 1 to which it is led.
        pattern = made(THREE)
        told = truths(pattern)[0]
        for world in (ONE_OF_THREE, OTHER_OF_THREE, sum_of(pattern, ONE_OF_THREE, OTHER_OF_THREE)[0]):
            self.assertEqual(many_maps(pattern, world, told), slow_part_count(world))
        whole = product(pattern, OTHER_OF_THREE, OTHER_OF_THREE)[0]
        self.assertEqual(whole[0], (49, 36))
        count = many_maps(pattern, whole, told)
        self.assertGreater(count, 2 ** 36)
        self.assertEqual(many_maps(pattern, sum_of(pattern, whole, whole)[0], told), count ** 2)
        part = product(pattern, JUST_ONE, ONE_OF_THREE)[0]
        self.assertEqual(many_maps(pattern, part, told), slow_part_count(part))


def slow_part_count(world):
    """How many parts a world of doings from kind 0 to kind 1 has: two for each thing all of whose goals are taken."""
    count = 0
    rows = list(zip(*world[1]))
    for taken in range(2 ** world[0][1]):
        inside = [row for row in rows if all(taken >> goal & 1 for goal in row)]
        count += 2 ** len(inside)
    return count


def maps_or_none(pattern, one, other):
    try:
        return maps(pattern, one, other)
    except errors.TooMany:
        return None


if __name__ == "__main__":
    unittest.main()
