"""Promises 40 to 42, and 1 for products, sums and what fits."""

import itertools
import unittest

from mapwright.allmaps import many_maps, maps
from mapwright.joins import either, fitted, nothing, one_thing, paired, product, sum_of
from mapwright.maps import is_map, is_onto, staying, then
from mapwright.worlds import is_world
from tests.kinds import assert_tuples
from tests.samples import (
    ALL, ARROWS, CHAIN, FLIP, FLIPPED, GRAPH, LINKED, PLAIN, PLAIN_THREE, PLAIN_TWO, REST, RIGHT, TURN, TURNED, made,
    nothing_of, singles_of,
)
from tests.slow import small_worlds, some_pairs

ARROW = ((1, 2), ((0,), (1,)))
LOOP = ((1, 1), ((0,), (0,)))
POINTS = ((0, 3), ((), ()))
SWAP = ((2,), ((1, 0),))

PRODUCTS = (
    (PLAIN, ((2,), ()), ((3,), ()), (((6,), ()), ((0, 0, 0, 1, 1, 1),), ((0, 1, 2, 0, 1, 2),))),
    (PLAIN, ((3,), ()), ((2,), ()), (((6,), ()), ((0, 0, 1, 1, 2, 2),), ((0, 1, 0, 1, 0, 1),))),
    (PLAIN, ((3,), ()), ((0,), ()), (((0,), ()), ((),), ((),))),
    (PLAIN, ((0,), ()), ((3,), ()), (((0,), ()), ((),), ((),))),
    (PLAIN_TWO, ((2, 0), ()), ((2, 3), ()), (((4, 0), ()), ((0, 0, 1, 1), ()), ((0, 1, 0, 1), ()))),
    (PLAIN_THREE, ((1, 0, 2), ()), ((2, 3, 1), ()), (
        ((2, 0, 2), ()), ((0, 0), (), (0, 1)), ((0, 1), (), (0, 0)),
    )),
    (GRAPH, ARROW, ARROW, (
        ((1, 4), ((0,), (3,))), ((0,), (0, 0, 1, 1)), ((0,), (0, 1, 0, 1)),
    )),
    (GRAPH, ARROW, ARROWS, (
        ((3, 4), ((0, 1, 1), (3, 3, 2))), ((0, 0, 0), (0, 0, 1, 1)), ((0, 1, 2), (0, 1, 0, 1)),
    )),
    (GRAPH, ARROWS, POINTS, (
        ((0, 6), ((), ())), ((), (0, 0, 0, 1, 1, 1)), ((), (0, 1, 2, 0, 1, 2)),
    )),
    # Pair 0 is (0, 0), and both are led to 1, so to pair 4; pair 2 is (0, 2), led to (1, 2), pair 5.
    (FLIP, SWAP, FLIPPED, (((6,), ((4, 3, 5, 1, 0, 2),)), ((0, 0, 0, 1, 1, 1),), ((0, 1, 2, 0, 1, 2),))),
    (FLIP, FLIPPED, SWAP, (((6,), ((3, 2, 1, 0, 5, 4),)), ((0, 0, 1, 1, 2, 2),), ((0, 1, 0, 1, 0, 1),))),
    (REST, ((2,), ((1, 1),)), ((2,), ((0, 0),)), (((4,), ((2, 2, 2, 2),)), ((0, 0, 1, 1),), ((0, 1, 0, 1),))),
    (CHAIN, ((1, 2, 1), ((1,), (0, 0), (0,))), ((1, 1, 3), ((0,), (2,), (2,))), (
        ((1, 2, 3), ((1,), (2, 2), (2,))),
        ((0,), (0, 1), (0, 0, 0)),
        ((0,), (0, 0), (0, 1, 2)),
    )),
)

SUMS = (
    (PLAIN, ((2,), ()), ((3,), ()), (((5,), ()), ((0, 1),), ((2, 3, 4),))),
    (PLAIN, ((0,), ()), ((3,), ()), (((3,), ()), ((),), ((0, 1, 2),))),
    (PLAIN_TWO, ((2, 0), ()), ((1, 3), ()), (((3, 3), ()), ((0, 1), ()), ((2,), (0, 1, 2)))),
    (PLAIN_THREE, ((1, 0, 2), ()), ((2, 3, 0), ()), (
        ((3, 3, 2), ()), ((0,), (), (0, 1)), ((1, 2), (0, 1, 2), ()),
    )),
    (GRAPH, ARROWS, ARROW, (
        ((4, 4), ((0, 1, 1, 2), (1, 1, 0, 3))), ((0, 1, 2), (0, 1)), ((3,), (2, 3)),
    )),
    (GRAPH, ARROW, ARROWS, (
        ((4, 4), ((0, 2, 3, 3), (1, 3, 3, 2))), ((0,), (0, 1)), ((1, 2, 3), (2, 3)),
    )),
    (GRAPH, POINTS, LOOP, (((1, 4), ((3,), (3,))), ((), (0, 1, 2)), ((0,), (3,)))),
    (FLIP, FLIPPED, SWAP, (((5,), ((1, 0, 2, 4, 3),)), ((0, 1, 2),), ((3, 4),))),
    (CHAIN, ((1, 2, 1), ((1,), (0, 0), (0,))), ((1, 1, 3), ((0,), (2,), (2,))), (
        ((2, 3, 4), ((1, 2), (0, 0, 3), (0, 3))),
        ((0,), (0, 1), (0,)),
        ((1,), (2,), (1, 2, 3)),
    )),
)

# A map of the one and a map of the other into a world, and the pairs that fit.
FITS = (
    (PLAIN, ((3,), ()), ((2,), ()), ((0, 1, 0),), ((1, 0),), (((3,), ()), ((0, 1, 2),), ((1, 0, 1),))),
    (PLAIN, ((2,), ()), ((2,), ()), ((4, 4),), ((4, 4),), (((4,), ()), ((0, 0, 1, 1),), ((0, 1, 0, 1),))),
    (PLAIN, ((2,), ()), ((2,), ()), ((0, 1),), ((2, 3),), (((0,), ()), ((),), ((),))),
    (PLAIN, ((0,), ()), ((2,), ()), ((),), ((2, 3),), (((0,), ()), ((),), ((),))),
    # Arrow 0 of both goes to arrow 0 of ARROWS, which is from point 0 to point 1.
    (GRAPH, ARROW, ARROW, ((0,), (0, 1)), ((0,), (0, 1)), (((1, 2), ((0,), (1,))), ((0,), (0, 1)), ((0,), (0, 1)))),
    # Arrows 0 and 2, the other way about: the points fit, the arrows don't.
    (GRAPH, ARROW, ARROW, ((0,), (0, 1)), ((2,), (1, 0)), (((0, 2), ((), ())), ((), (0, 1)), ((), (1, 0)))),
    (GRAPH, ARROW, ARROW, ((1,), (1, 1)), ((1,), (1, 1)), (
        ((1, 4), ((0,), (3,))), ((0,), (0, 0, 1, 1)), ((0,), (0, 1, 0, 1)),
    )),
    (GRAPH, ARROW, ARROW, ((1,), (1, 1)), ((0,), (0, 1)), (((0, 2), ((), ())), ((), (0, 1)), ((), (1, 1)))),
    (FLIP, FLIPPED, FLIPPED, ((0, 1, 2),), ((1, 0, 2),), (((3,), ((1, 0, 2),)), ((0, 1, 2),), ((1, 0, 2),))),
    (FLIP, FLIPPED, SWAP, ((2, 2, 2),), ((0, 1),), (((0,), ((),)), ((),), ((),))),
)


def pairs_of(one, other, kind):
    """The pairs of things of a kind, in the order of their numbers."""
    return list(itertools.product(range(one[0][kind]), range(other[0][kind])))


def slow_fitted(sample, one, other, fits):
    """The world of the pairs (kind, i, j) that fit, and its maps, all by looking pairs up."""
    rows = []
    for kind in range(sample[0]):
        rows.append([(i, j) for i, j in pairs_of(one, other, kind) if fits(kind, i, j)])
    acts = []
    for (start, goal), act, more in zip(sample[1], one[1], other[1]):
        acts.append(tuple([rows[goal].index((act[i], more[j])) for i, j in rows[start]]))
    return (
        (tuple([len(row) for row in rows]), tuple(acts)),
        tuple([tuple([i for i, j in row]) for row in rows]),
        tuple([tuple([j for i, j in row]) for row in rows]),
    )


def further_worlds(sample):
    """Some small worlds of which maps are counted."""
    worlds = small_worlds(sample)
    return worlds[::max(1, len(worlds) // 4)]


class Products(unittest.TestCase):
    """[40] Products, with their maps."""

    def assert_right(self, sample, one, other, told):
        pattern = made(sample)
        assert_tuples(self, told)
        self.assertEqual(len(told), 3)
        self.assertTrue(is_world(pattern, told[0]))
        self.assertTrue(is_map(pattern, told[0], one, told[1]))
        self.assertTrue(is_map(pattern, told[0], other, told[2]))
        self.assertEqual(told, slow_fitted(sample, one, other, lambda kind, i, j: True))

    def test_written_out(self):
        for sample, one, other, wanted in PRODUCTS:
            with self.subTest(sample=sample, one=one, other=other):
                self.assertEqual(product(made(sample), one, other), wanted)
                self.assert_right(sample, one, other, wanted)

    def test_each_pairs_number(self):
        for sample, world in RIGHT:
            told = product(made(sample), world, world)
            for kind, many in enumerate(world[0]):
                for i, j in pairs_of(world, world, kind):
                    with self.subTest(sample=sample, kind=kind, i=i, j=j):
                        self.assertEqual((told[1][kind][i * many + j], told[2][kind][i * many + j]), (i, j))

    def test_small_worlds(self):
        for sample in ALL:
            for one, other in some_pairs(sample):
                with self.subTest(sample=sample, one=one, other=other):
                    self.assert_right(sample, one, other, product(made(sample), one, other))

    def test_of_a_product_with_a_further_world(self):
        for sample, world in RIGHT:
            pattern = made(sample)
            two = product(pattern, world, world)[0]
            for one, other in ((two, world), (world, two)):
                with self.subTest(sample=sample, one=one):
                    self.assert_right(sample, one, other, product(pattern, one, other))
            # As the numbers go, it is all one which two come first.
            self.assertEqual(product(pattern, two, world)[0], product(pattern, world, two)[0])

    def test_with_the_world_of_one_thing_of_each_kind(self):
        for sample, world in RIGHT:
            pattern = made(sample)
            ones = tuple([(0,) * size for size in world[0]])
            with self.subTest(sample=sample):
                self.assertEqual(product(pattern, world, one_thing(pattern)), (world, staying(world), ones))
                self.assertEqual(product(pattern, one_thing(pattern), world), (world, ones, staying(world)))

    def test_with_the_world_of_nothing(self):
        for sample, world in RIGHT:
            pattern = made(sample)
            wanted = (nothing_of(sample), ((),) * sample[0], ((),) * sample[0])
            with self.subTest(sample=sample):
                self.assertEqual(product(pattern, world, nothing(pattern)), wanted)
                self.assertEqual(product(pattern, nothing(pattern), world), wanted)
                self.assertEqual(product(pattern, nothing(pattern), nothing(pattern)), wanted)

    def test_as_many_maps_as_pairs_of_maps(self):
        for sample in ALL:
            pattern = made(sample)
            for one, other in some_pairs(sample, limit=20):
                whole = product(pattern, one, other)[0]
                for world in further_worlds(sample):
                    with self.subTest(sample=sample, one=one, other=other, world=world):
                        here = many_maps(pattern, world, one)
                        there = many_maps(pattern, world, other)
                        self.assertEqual(many_maps(pattern, world, whole), here * there)


class Paired(unittest.TestCase):
    """[40] Two maps of a world put together to one into the product."""

    def test_written_out(self):
        self.assertEqual(paired(((3,), ()), ((1, 0),), ((2, 1),)), ((5, 1),))
        self.assertEqual(paired(((2, 5), ()), ((1,), (3, 0)), ((0,), (4, 2))), ((2,), (19, 2)))
        self.assertEqual(paired(((0,), ()), ((),), ((),)), ((),))
        self.assertEqual(paired(ARROWS, ((0,), (0, 1)), ((2,), (1, 0))), ((2,), (1, 2)))

    def test_it_is_the_one_map_that_comes_to_both(self):
        for sample in ALL:
            for one, other in some_pairs(sample, limit=20):
                for world in further_worlds(sample):
                    self.assert_paired(made(sample), world, one, other)

    def assert_paired(self, pattern, world, one, other):
        told = product(pattern, one, other)
        found = []
        for left, right in itertools.product(maps(pattern, world, one), maps(pattern, world, other)):
            some = paired(other, left, right)
            found.append(some)
            self.assertTrue(is_map(pattern, world, told[0], some), (world, one, other, left, right))
            self.assertEqual((then(some, told[1]), then(some, told[2])), (left, right))
        self.assertEqual(sorted(found), maps(pattern, world, told[0]))

    def test_the_told_maps_put_together_stay(self):
        for sample, one, other, told in PRODUCTS:
            with self.subTest(sample=sample, one=one, other=other):
                self.assertEqual(paired(other, told[1], told[2]), staying(told[0]))

    def test_tuples_of_tuples(self):
        for sample, world in RIGHT:
            assert_tuples(self, paired(world, staying(world), staying(world)))


class OneThingAndNothing(unittest.TestCase):
    """[40] The world of just one thing of each kind, and that of nothing."""

    def test_written_out(self):
        self.assertEqual(one_thing(made(PLAIN)), ((1,), ()))
        self.assertEqual(one_thing(made(GRAPH)), ((1, 1), ((0,), (0,))))
        self.assertEqual(one_thing(made(CHAIN)), ((1, 1, 1), ((0,), (0,), (0,))))
        self.assertEqual(nothing(made(PLAIN)), ((0,), ()))
        self.assertEqual(nothing(made(GRAPH)), ((0, 0), ((), ())))
        self.assertEqual(nothing(made(CHAIN)), ((0, 0, 0), ((), (), ())))

    def test_they_are_worlds(self):
        for sample in ALL:
            pattern = made(sample)
            for told in (one_thing(pattern), nothing(pattern)):
                with self.subTest(sample=sample, told=told):
                    assert_tuples(self, told)
                    self.assertTrue(is_world(pattern, told))
            self.assertEqual(one_thing(pattern)[0], (1,) * sample[0])
            self.assertEqual(nothing(pattern)[0], (0,) * sample[0])

    def test_just_one_map(self):
        for sample in ALL:
            pattern = made(sample)
            worlds = small_worlds(sample)
            for world in worlds[::max(1, len(worlds) // 40)] + [world for other, world in RIGHT if other == sample]:
                with self.subTest(sample=sample, world=world):
                    zeros = tuple([(0,) * size for size in world[0]])
                    self.assertEqual(maps(pattern, world, one_thing(pattern)), [zeros])
                    self.assertEqual(maps(pattern, nothing(pattern), world), [((),) * sample[0]])


class Sums(unittest.TestCase):
    """[41] Sums, with the maps in."""

    def assert_right(self, sample, one, other, told):
        pattern = made(sample)
        assert_tuples(self, told)
        self.assertEqual(len(told), 3)
        self.assertTrue(is_world(pattern, told[0]))
        self.assertTrue(is_map(pattern, one, told[0], told[1]))
        self.assertTrue(is_map(pattern, other, told[0], told[2]))
        self.assertEqual(told[0][0], tuple([here + there for here, there in zip(one[0], other[0])]))
        for here, there, row, more in zip(one[0], other[0], told[1], told[2]):
            self.assertEqual(row, tuple(range(here)))
            self.assertEqual(more, tuple(range(here, here + there)))

    def test_written_out(self):
        for sample, one, other, wanted in SUMS:
            with self.subTest(sample=sample, one=one, other=other):
                self.assertEqual(sum_of(made(sample), one, other), wanted)
                self.assert_right(sample, one, other, wanted)

    def test_small_worlds(self):
        for sample in ALL:
            for one, other in some_pairs(sample):
                with self.subTest(sample=sample, one=one, other=other):
                    self.assert_right(sample, one, other, sum_of(made(sample), one, other))

    def test_of_a_sum_with_a_further_world(self):
        for sample, world in RIGHT:
            pattern = made(sample)
            two = sum_of(pattern, world, world)[0]
            with self.subTest(sample=sample):
                self.assert_right(sample, two, world, sum_of(pattern, two, world))
                self.assert_right(sample, world, two, sum_of(pattern, world, two))
                self.assertEqual(sum_of(pattern, two, world)[0], sum_of(pattern, world, two)[0])

    def test_with_nothing(self):
        for sample, world in RIGHT:
            pattern = made(sample)
            empty = ((),) * sample[0]
            with self.subTest(sample=sample):
                self.assertEqual(sum_of(pattern, world, nothing(pattern)), (world, staying(world), empty))
                self.assertEqual(sum_of(pattern, nothing(pattern), world), (world, empty, staying(world)))

    def test_sixty_times_one_thing(self):
        for sample in ALL:
            pattern = made(sample)
            world = nothing(pattern)
            for time in range(60):
                world = sum_of(pattern, world, one_thing(pattern))[0]
            self.assertEqual(world, singles_of(sample, 60))

    def test_as_many_maps_as_pairs_of_maps(self):
        for sample in ALL:
            pattern = made(sample)
            for one, other in some_pairs(sample, limit=20):
                whole = sum_of(pattern, one, other)[0]
                for world in further_worlds(sample):
                    with self.subTest(sample=sample, one=one, other=other, world=world):
                        here = many_maps(pattern, one, world)
                        there = many_maps(pattern, other, world)
                        self.assertEqual(many_maps(pattern, whole, world), here * there)


class Either(unittest.TestCase):
    """[41] Two maps into one and the same world put together to one of the sum."""

    def test_written_out(self):
        self.assertEqual(either(((1, 0),), ((2,),)), ((1, 0, 2),))
        self.assertEqual(either(((), (3,)), ((2,), ())), ((2,), (3,)))
        self.assertEqual(either(((),), ((),)), ((),))
        self.assertEqual(either(((0,), (0, 1)), ((2,), (1, 0))), ((0, 2), (0, 1, 1, 0)))

    def test_it_is_the_one_map_that_both_come_to(self):
        for sample in ALL:
            for one, other in some_pairs(sample, limit=20):
                for world in further_worlds(sample):
                    self.assert_either(made(sample), one, other, world)

    def assert_either(self, pattern, one, other, world):
        told = sum_of(pattern, one, other)
        found = []
        for left, right in itertools.product(maps(pattern, one, world), maps(pattern, other, world)):
            some = either(left, right)
            found.append(some)
            self.assertTrue(is_map(pattern, told[0], world, some), (one, other, world, left, right))
            self.assertEqual((then(told[1], some), then(told[2], some)), (left, right))
        self.assertEqual(sorted(found), maps(pattern, told[0], world))

    def test_the_maps_in_put_together_stay(self):
        for sample, one, other, told in SUMS:
            with self.subTest(sample=sample, one=one, other=other):
                self.assertEqual(either(told[1], told[2]), staying(told[0]))

    def test_tuples_of_tuples(self):
        for sample, world in RIGHT:
            assert_tuples(self, either(staying(world), staying(world)))


class Fitted(unittest.TestCase):
    """[42] The pairs at which two maps fit."""

    def test_written_out(self):
        for sample, one, other, left, right, wanted in FITS:
            with self.subTest(sample=sample, one=one, other=other, left=left, right=right):
                self.assertEqual(fitted(made(sample), one, other, left, right), wanted)

    def test_small_worlds(self):
        for sample in ALL:
            pattern = made(sample)
            for one, other in some_pairs(sample, limit=30):
                for world in further_worlds(sample):
                    chosen = list(itertools.product(maps(pattern, one, world), maps(pattern, other, world)))
                    for left, right in chosen[::max(1, len(chosen) // 5)]:
                        with self.subTest(sample=sample, one=one, other=other, left=left, right=right):
                            self.assert_right(sample, one, other, left, right)

    def assert_right(self, sample, one, other, left, right):
        pattern = made(sample)
        told = fitted(pattern, one, other, left, right)
        assert_tuples(self, told)
        self.assertTrue(is_world(pattern, told[0]))
        self.assertTrue(is_map(pattern, told[0], one, told[1]))
        self.assertTrue(is_map(pattern, told[0], other, told[2]))
        self.assertEqual(then(told[1], left), then(told[2], right))
        wanted = slow_fitted(sample, one, other, lambda kind, i, j: left[kind][i] == right[kind][j])
        self.assertEqual(told, wanted)

    def test_into_the_world_of_one_thing_all_pairs_fit(self):
        for sample, world in RIGHT:
            pattern = made(sample)
            zeros = tuple([(0,) * size for size in world[0]])
            with self.subTest(sample=sample):
                self.assertEqual(fitted(pattern, world, world, zeros, zeros), product(pattern, world, world))

    def test_with_staying_it_is_the_world_itself(self):
        for sample, world in RIGHT:
            stay = staying(world)
            with self.subTest(sample=sample):
                self.assertEqual(fitted(made(sample), world, world, stay, stay), (world, stay, stay))

    def test_where_none_fits(self):
        for sample, world in RIGHT:
            pattern = made(sample)
            told = sum_of(pattern, world, world)
            wanted = (nothing_of(sample), ((),) * sample[0], ((),) * sample[0])
            with self.subTest(sample=sample):
                self.assertEqual(fitted(pattern, world, world, told[1], told[2]), wanted)
                self.assertEqual(fitted(pattern, nothing(pattern), world, wanted[1], told[2]), wanted)

    def test_as_many_maps_as_pairs_of_maps_that_come_to_one(self):
        pattern = made(GRAPH)
        for left, right in itertools.product(maps(pattern, ARROW, ARROWS), repeat=2):
            told = fitted(pattern, ARROW, ARROW, left, right)
            for world in further_worlds(GRAPH):
                wanted = [
                    (here, there)
                    for here, there in itertools.product(maps(pattern, world, ARROW), repeat=2)
                    if then(here, left) == then(there, right)
                ]
                self.assertEqual(many_maps(pattern, world, told[0]), len(wanted))

    def test_fitted_with_an_onto_map_is_onto(self):
        pattern = made(TURN)
        onto = ((0, 0, 0, 0),)
        told = fitted(pattern, TURNED, TURNED, onto, onto)
        self.assertTrue(is_onto(TURNED, told[1]))
        self.assertEqual(told[0][0], (16,))


class NothingHangsOnIt(unittest.TestCase):
    """[1] The pattern and the worlds stay, and asked again the same is told."""

    def test_asked_again_the_same_is_told(self):
        for sample, world in RIGHT:
            pattern = made(sample)
            stay = staying(world)
            asked = (
                lambda: product(pattern, world, world), lambda: sum_of(pattern, world, world),
                lambda: fitted(pattern, world, world, stay, stay), lambda: one_thing(pattern),
                lambda: nothing(pattern), lambda: paired(world, stay, stay), lambda: either(stay, stay),
            )
            ahead = [call() for call in asked]
            for kind in range(sample[0]):
                pattern.ways(kind).clear()
            with self.subTest(sample=sample):
                self.assertEqual([call() for call in reversed(asked)], ahead[::-1])
                self.assertEqual((pattern.kinds(), pattern.doings()), sample[:2])

    def test_the_sample_worlds_stay(self):
        made_again = ((2, 3, 2), ((2, 0), (1, 0, 0), (0, 1)))
        product(made(CHAIN), LINKED, LINKED)
        sum_of(made(CHAIN), LINKED, LINKED)
        self.assertEqual(LINKED, made_again)


if __name__ == "__main__":
    unittest.main()
