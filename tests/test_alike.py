"""Promises 70 and 71, and 1 for worlds that are alike."""

import itertools
import random
import unittest

from mapwright.alike import alike, shows
from mapwright.allmaps import many_maps
from mapwright.joins import nothing, one_thing, product, sum_of
from mapwright.maps import is_apart, is_map, is_onto, staying
from mapwright.parts import part_world
from mapwright.pieces import pieces
from mapwright.seeds import seed
from mapwright.truths import truths
from mapwright.worlds import is_world, renumbered
from tests.kinds import assert_tuples
from tests.samples import (
    ALL, ARROWS, CHAIN, FIRST, FLIP, FLIPPED, GRAPH, HOOK, HOOKED, LAST, LINKED, LOOPED, LOOPS, PLAIN, PLAIN_THREE,
    PLAIN_TWO, REST, RIGHT, TURN, made, nothing_of,
)
from tests.slow import slow_maps, small_worlds, some_pairs, worlds_of

# Points one behind the other: one circle of four, two of two, one of three and one of one, and so on.
CIRCLE_FOUR = ((4, 4), ((0, 1, 2, 3), (1, 2, 3, 0)))
TWO_CIRCLES = ((4, 4), ((0, 1, 2, 3), (1, 0, 3, 2)))
THREE_AND_ONE = ((4, 4), ((0, 1, 2, 3), (1, 2, 0, 3)))
PATH = ((3, 4), ((0, 1, 2), (1, 2, 3)))
BENT_PATH = ((3, 4), ((0, 2, 2), (1, 1, 3)))
STAR_IN = ((3, 4), ((1, 2, 3), (0, 0, 0)))
STAR_OUT = ((3, 4), ((0, 0, 0), (1, 2, 3)))

# Worlds of like sizes that are not alike.
UNLIKE = (
    (GRAPH, CIRCLE_FOUR, TWO_CIRCLES),
    (GRAPH, CIRCLE_FOUR, THREE_AND_ONE),
    (GRAPH, TWO_CIRCLES, THREE_AND_ONE),
    (GRAPH, PATH, BENT_PATH),
    (GRAPH, STAR_IN, STAR_OUT),
    (GRAPH, PATH, STAR_OUT),
    (GRAPH, ((6, 2), ((0,) * 6, (0,) * 5 + (1,))), ((6, 2), ((0,) * 6, (0,) * 4 + (1,) * 2))),
    (GRAPH, ((6, 2), ((0, 0, 0, 1, 1, 1), (1, 1, 1, 0, 0, 0))), ((6, 2), ((0, 0, 0, 0, 1, 1), (1, 1, 1, 1, 0, 0)))),
    (GRAPH, ((2, 6), ((0, 1), (1, 2))), ((2, 6), ((0, 2), (1, 3)))),
    (FLIP, ((6,), ((1, 0, 3, 2, 5, 4),)), ((6,), ((1, 0, 3, 2, 4, 5),))),
    (FLIP, ((2,), ((0, 1),)), ((2,), ((1, 0),))),
    (REST, ((6,), ((0, 0, 0, 3, 3, 3),)), ((6,), ((0, 0, 0, 0, 4, 4),))),
    (REST, ((6,), ((0, 0, 0, 0, 4, 5),)), ((6,), ((0, 0, 0, 3, 3, 5),))),
    (TURN, ((6,), ((1, 2, 0, 4, 5, 3), (2, 0, 1, 5, 3, 4))), ((6,), ((1, 2, 0, 3, 4, 5), (2, 0, 1, 3, 4, 5)))),
    (CHAIN, LINKED, ((2, 3, 2), ((2, 2), (1, 0, 0), (0, 0)))),
    (CHAIN, LINKED, ((2, 3, 2), ((1, 2), (1, 0, 0), (0, 0)))),
    (LOOPS, LOOPED, ((3, 2), ((0, 0, 1), (0, 0, 1), (0, 2), (0, 0, 2), (0, 0, 2)))),
    (HOOK, HOOKED, ((1, 1, 2), ((0,), (0,), (0, 1), (0,), (0,)))),
)


def slow_alike(sample, one, other):
    """Whether some map is apart and onto, by trying all orders."""
    if one[0] != other[0]:
        return False
    pattern = made(sample)
    orders = itertools.product(*[itertools.permutations(range(size)) for size in one[0]])
    return any(renumbered(pattern, one, some) == other for some in orders)


def some_orders(chance, world):
    return tuple([tuple(chance.sample(range(size), size)) for size in world[0]])


def random_world(chance, sample, sizes):
    """A world of a sample's pattern in which no doings meet."""
    acts = [tuple([chance.randrange(sizes[goal]) for thing in range(sizes[start])]) for start, goal in sample[1]]
    return (tuple(sizes), tuple(acts))


def world_pairs(limit):
    """Samples with pairs of small worlds of like sizes, and some of others."""
    for sample in ALL + (FIRST, LAST):
        pairs = some_pairs(sample, limit=10 ** 9)
        like = [pair for pair in pairs if pair[0][0] == pair[1][0]]
        for one, other in like[::max(1, len(like) // limit)] + pairs[::max(1, len(pairs) // 10)]:
            yield sample, one, other


class Alike(unittest.TestCase):
    """[70] Two worlds are alike, or a third one tells them apart."""

    def assert_alike(self, sample, one, other):
        pattern = made(sample)
        with self.subTest(sample=sample, one=one, other=other):
            told = alike(pattern, one, other)
            self.assertEqual((type(told), len(told), told[0]), (tuple, 2, "alike"))
            assert_tuples(self, told[1:])
            some = told[1]
            self.assertTrue(is_map(pattern, one, other, some) and is_apart(some) and is_onto(other, some))
            self.assertIs(shows(pattern, one, other, told), True)
            self.assertEqual(alike(pattern, one, other), told)

    def assert_unlike(self, sample, one, other, count=many_maps):
        pattern = made(sample)
        with self.subTest(sample=sample, one=one, other=other):
            told = alike(pattern, one, other)
            self.assertEqual((type(told), len(told), told[0]), (tuple, 4, "unlike"))
            assert_tuples(self, told[1:])
            world, here, there = told[1:]
            self.assertTrue(is_world(pattern, world))
            self.assertNotEqual(here, there)
            self.assertEqual((here, there), (count(pattern, world, one), count(pattern, world, other)))
            self.assertIs(shows(pattern, one, other, told), True)
            self.assertEqual(alike(pattern, one, other), told)

    def test_small_worlds_against_a_slow_search(self):
        for sample, one, other in world_pairs(60):
            if slow_alike(sample, one, other):
                self.assert_alike(sample, one, other)
            else:
                self.assert_unlike(sample, one, other, lambda pattern, here, there: len(slow_maps(sample, here, there)))

    def test_all_worlds_of_some_sizes(self):
        asked = (
            (GRAPH, (3, 2)), (GRAPH, (2, 3)), (FLIP, (4,)), (REST, (4,)), (TURN, (3,)), (CHAIN, (2, 2, 2)),
        )
        for sample, sizes in asked:
            worlds = worlds_of(sample, sizes)
            pairs = list(itertools.product(worlds, repeat=2))
            for one, other in pairs[::max(1, len(pairs) // 150)]:
                if slow_alike(sample, one, other):
                    self.assert_alike(sample, one, other)
                else:
                    self.assert_unlike(sample, one, other)

    def test_a_world_and_itself(self):
        for sample, world in RIGHT:
            self.assert_alike(sample, world, world)
        for sample, one, other in UNLIKE:
            self.assert_alike(sample, one, one)
            self.assert_alike(sample, other, other)

    def test_a_world_renumbered(self):
        chance = random.Random(70)
        for sample, world in list(RIGHT) + [(sample, one) for sample, one, other in UNLIKE]:
            for time in range(5):
                self.assert_alike(sample, world, renumbered(made(sample), world, some_orders(chance, world)))

    def test_worlds_of_like_sizes_that_are_not_alike(self):
        for sample, one, other in UNLIKE:
            pattern = made(sample)
            for kind in range(sample[0]):
                counts = [many_maps(pattern, seed(pattern, kind), world) for world in (one, other)]
                self.assertEqual(counts[0], counts[1])
            self.assert_unlike(sample, one, other)
            self.assert_unlike(sample, other, one)

    def test_worlds_of_the_most_things(self):
        chance = random.Random(71)
        told = {"alike": 0, "unlike": 0}
        sizes = ((6, 2), (5, 3), (4, 4), (3, 5), (2, 6), (6, 1), (1, 6))
        for time in range(150):
            some = chance.choice(sizes)
            one = random_world(chance, GRAPH, some)
            other = renumbered(made(GRAPH), random_world(chance, GRAPH, some), some_orders(chance, one))
            sort = "alike" if slow_alike_by_arrows(one, other) else "unlike"
            told[sort] += 1
            if sort == "alike":
                self.assert_alike(GRAPH, one, other)
            else:
                self.assert_unlike(GRAPH, one, other)
        self.assertGreater(min(told.values()), 0)

    def test_one_thing_led_elsewhere(self):
        chance = random.Random(72)
        for time in range(100):
            sizes = chance.choice(((4, 4), (5, 3), (3, 5)))
            one = random_world(chance, GRAPH, sizes)
            row = list(one[1][1])
            row[chance.randrange(len(row))] = chance.randrange(sizes[1])
            other = (one[0], (one[1][0], tuple(row)))
            if slow_alike_by_arrows(one, other):
                self.assert_alike(GRAPH, one, other)
            else:
                self.assert_unlike(GRAPH, one, other)

    def test_without_things(self):
        for sample, world in RIGHT:
            self.assert_alike(sample, nothing_of(sample), nothing_of(sample))
            self.assert_unlike(sample, nothing_of(sample), world)
            self.assert_unlike(sample, world, nothing_of(sample))

    def test_of_other_sizes(self):
        self.assert_unlike(PLAIN, ((2,), ()), ((3,), ()))
        self.assert_unlike(PLAIN_TWO, ((1, 2), ()), ((2, 1), ()))
        self.assert_unlike(PLAIN_THREE, ((2, 2, 2), ()), ((2, 2, 1), ()))
        for sample, world in RIGHT:
            self.assert_unlike(sample, world, sum_of(made(sample), world, world)[0])
            self.assert_unlike(sample, world, sum_of(made(sample), one_thing(made(sample)), world)[0])

    def test_somewhat_more_things(self):
        chance = random.Random(73)
        ten = ((10, 10), (tuple(range(10)), (1, 2, 3, 4, 5, 6, 7, 8, 9, 0)))
        fives = ((10, 10), (tuple(range(10)), (1, 2, 3, 4, 0, 6, 7, 8, 9, 5)))
        self.assert_alike(GRAPH, ten, renumbered(made(GRAPH), ten, some_orders(chance, ten)))
        self.assert_unlike(GRAPH, ten, fives)
        self.assert_alike(PLAIN_THREE, ((8, 8, 8), ()), ((8, 8, 8), ()))
        self.assert_unlike(PLAIN_THREE, ((8, 8, 8), ()), ((8, 8, 7), ()))
        for sample, one, other in UNLIKE[:8]:
            pattern = made(sample)
            more = sum_of(pattern, one, ARROWS)[0]
            self.assert_alike(sample, more, sum_of(pattern, ARROWS, one)[0])
            self.assert_unlike(sample, more, sum_of(pattern, ARROWS, other)[0])


def slow_alike_by_arrows(one, other):
    """Whether two worlds of arrows and points are alike: by all orders of the points, the arrows being sorted then."""
    wanted = sorted(zip(*other[1]))
    for order in itertools.permutations(range(one[0][1])):
        if sorted([(order[start], order[goal]) for start, goal in zip(*one[1])]) == wanted:
            return one[0] == other[0]
    return False


class Shows(unittest.TestCase):
    """[70] Whether a paper shows what it tells."""

    def assert_shown(self, sample, one, other, paper, wanted):
        with self.subTest(sample=sample, one=one, other=other, paper=paper):
            self.assertIs(shows(made(sample), one, other, paper), wanted)

    def test_maps_written_out(self):
        other = renumbered(made(GRAPH), ARROWS, ((0, 1, 2), (1, 0)))
        self.assert_shown(GRAPH, ARROWS, other, ("alike", ((0, 1, 2), (1, 0))), True)
        self.assert_shown(GRAPH, ARROWS, ARROWS, ("alike", staying(ARROWS)), True)
        wrong = (
            ((0, 1, 2), (0, 1)), ((0, 2, 1), (1, 0)), ((0, 1, 1), (1, 0)), ((1, 1, 1), (0, 0)), ((0, 1, 3), (1, 0)),
            ((0, 1, 2), (1, 2)), ((0, 1, 2), (1, -1)), ((0, 1, -1), (1, 0)), ((-3, -2, -1), (-1, -2)), ((0, 1), (1, 0)),
            ((0, 1, 2), (1,)), ((0, 1, 2, 0), (1, 0)), ((0, 1, 2), (1, 0, 0)), ((0, 1, 2),), ((0, 1, 2), (1, 0),
            ()), (), ((),),
            ((), ()), ((1, 0), (0, 1, 2)),
        )
        for some in wrong:
            self.assert_shown(GRAPH, ARROWS, other, ("alike", some), False)

    def test_maps_that_are_apart_or_onto_alone(self):
        self.assert_shown(PLAIN, ((2,), ()), ((3,), ()), ("alike", ((0, 1),)), False)
        self.assert_shown(PLAIN, ((3,), ()), ((2,), ()), ("alike", ((0, 1, 1),)), False)
        self.assert_shown(PLAIN, ((3,), ()), ((3,), ()), ("alike", ((0, 1, 1),)), False)
        self.assert_shown(PLAIN, ((3,), ()), ((3,), ()), ("alike", ((2, 0, 1),)), True)
        self.assert_shown(GRAPH, ((0, 2), ((), ())), ((1, 2), ((0,), (1,))), ("alike", ((), (0, 1))), False)

    def test_worlds_written_out(self):
        loop = ((1, 1), ((0,), (0,)))
        arrow = ((1, 2), ((0,), (1,)))
        # Three maps of an arrow go into three arrows, whatever they are; one of a loop where one of them is a loop.
        other = ((3, 2), ((0, 0, 0), (1, 1, 1)))
        self.assert_shown(GRAPH, ARROWS, other, ("unlike", loop, 1, 0), True)
        self.assert_shown(GRAPH, other, ARROWS, ("unlike", loop, 0, 1), True)
        for here, there in ((0, 1), (1, 1), (0, 0), (1, -1), (2, 0), (1, 10 ** 30), (-1, 0)):
            self.assert_shown(GRAPH, ARROWS, other, ("unlike", loop, here, there), False)
        self.assert_shown(GRAPH, ARROWS, other, ("unlike", arrow, 3, 3), False)
        self.assert_shown(GRAPH, ARROWS, other, ("unlike", arrow, 3, 2), False)
        self.assert_shown(GRAPH, ARROWS, other, ("unlike", nothing_of(GRAPH), 1, 1), False)

    def test_tuples_that_are_no_worlds(self):
        other = ((3, 2), ((0, 0, 0), (1, 1, 1)))
        wrong = (
            ((), ()), ((1,), ((0,), (0,))), ((1, 1), ((0,),)), ((1, 1), ()), ((1, 1), ((0,), (0,), (0,))), ((1, 1),
            ((0,), (1,))),
            ((1, 1), ((0,), (-1,))), ((1, 1), ((0,), ())), ((-1, 1), ((0,), (0,))), ((1, 1, 1), ((0,), (0,))),
            ((1, -1), ((0,), (0,))), ((2, 1), ((0,), (0,))), ((0, 1), ((0,), (0,))),
        )
        for world in wrong:
            self.assert_shown(GRAPH, ARROWS, other, ("unlike", world, 1, 0), False)
        # Done twice the doing doesn't lead back.
        self.assert_shown(FLIP, FLIPPED, ((3,), ((0, 1, 2),)), ("unlike", ((3,), ((1, 2, 0),)), 1, 3), False)
        self.assert_shown(FLIP, FLIPPED, ((3,), ((0, 1, 2),)), ("unlike", ((1,), ((0,),)), 1, 3), True)

    def test_told_papers_changed(self):
        for sample, one, other in UNLIKE + tuple([(sample, world, world) for sample, world in RIGHT[3:]]):
            pattern = made(sample)
            paper = alike(pattern, one, other)
            self.assert_shown(sample, one, other, paper, True)
            if paper[0] == "alike":
                self.assert_changed_maps(sample, one, other, paper[1])
            else:
                world, here, there = paper[1:]
                self.assert_shown(sample, other, one, paper, False)
                self.assert_shown(sample, other, one, ("unlike", world, there, here), True)
                for wrong in ((there, here), (here + 1, there), (here, there - 1), (here, here), (there, there)):
                    self.assert_shown(sample, one, other, ("unlike", world) + wrong, False)
                self.assert_shown(sample, one, one, paper, False)
                self.assert_shown(sample, one, other, ("alike", staying(one)), False)

    def assert_changed_maps(self, sample, one, other, some):
        for kind, row in enumerate(some):
            for place in range(len(row)):
                for goal in (-1, len(row), row[place - 1]):
                    if goal != row[place]:
                        fresh = row[:place] + (goal,) + row[place + 1:]
                        changed = some[:kind] + (fresh,) + some[kind + 1:]
                        self.assert_shown(sample, one, other, ("alike", changed), False)
            self.assert_shown(sample, one, other, ("alike", some[:kind] + some[kind + 1:]), False)
            self.assert_shown(sample, one, other, ("alike", some[:kind] + (row,) + some[kind:]), False)

    def test_the_two_worlds_exchanged(self):
        chance = random.Random(74)
        for sample, world in RIGHT:
            other = renumbered(made(sample), world, some_orders(chance, world))
            some = alike(made(sample), world, other)[1]
            self.assert_shown(sample, world, other, ("alike", some), True)
            back = slow_alike_map(sample, other, world, some)
            self.assert_shown(sample, other, world, ("alike", some), back)


def slow_alike_map(sample, one, other, some):
    """Whether an order of each kind's things is a map."""
    return renumbered(made(sample), one, some) == other


class WhatFollows(unittest.TestCase):
    """[71] Alike worlds have as many maps, and what follows over sums, products and pieces."""

    def is_alike(self, sample, one, other):
        paper = alike(made(sample), one, other)
        self.assertTrue(shows(made(sample), one, other, paper))
        return paper[0] == "alike"

    def pairs(self, limit):
        """Pairs of small worlds, of like sizes for the most part, and the written ones."""
        return list(world_pairs(limit)) + list(UNLIKE)

    def test_as_many_maps_into_both_and_out_of_both(self):
        chance = random.Random(75)
        for sample, one in RIGHT:
            pattern = made(sample)
            other = renumbered(pattern, one, some_orders(chance, one))
            further = small_worlds(sample)
            for more in further[::max(1, len(further) // 40)] + [one, truths(pattern)[0]]:
                with self.subTest(sample=sample, more=more):
                    self.assertEqual(many_maps(pattern, more, one), many_maps(pattern, more, other))
                    self.assertEqual(many_maps(pattern, one, more), many_maps(pattern, other, more))

    def test_just_where_each_world_has_as_many_maps_into_both(self):
        for sample, sizes in ((GRAPH, (2, 2)), (FLIP, (2,)), (REST, (3,)), (PLAIN_TWO, (1, 2))):
            pattern = made(sample)
            further = small_worlds(sample, max(sizes))
            for one, other in itertools.product(worlds_of(sample, sizes), repeat=2):
                counts = [many_maps(pattern, more, one) == many_maps(pattern, more, other) for more in further]
                self.assertEqual(self.is_alike(sample, one, other), all(counts))

    def test_sums_with_one_and_the_same_world(self):
        for sample, one, other in self.pairs(25):
            pattern = made(sample)
            wanted = self.is_alike(sample, one, other)
            for more in (one_thing(pattern), one, seed(pattern, 0), nothing(pattern)):
                with self.subTest(sample=sample, one=one, other=other, more=more):
                    sums = (sum_of(pattern, one, more)[0], sum_of(pattern, other, more)[0])
                    self.assertEqual(self.is_alike(sample, sums[0], sums[1]), wanted)
                    turned = sum_of(pattern, more, other)[0]
                    self.assertEqual(self.is_alike(sample, sums[0], turned), wanted)

    def test_products_with_themselves(self):
        for sample, one, other in self.pairs(15):
            pattern = made(sample)
            with self.subTest(sample=sample, one=one, other=other):
                squares = (product(pattern, one, one)[0], product(pattern, other, other)[0])
                self.assertEqual(self.is_alike(sample, squares[0], squares[1]), self.is_alike(sample, one, other))

    def test_products_with_a_world_into_which_both_have_a_map(self):
        asked = 0
        for sample, one, other in self.pairs(15):
            pattern = made(sample)
            wanted = self.is_alike(sample, one, other)
            for more in (one_thing(pattern), one, sum_of(pattern, one_thing(pattern), seed(pattern, 0))[0]):
                if many_maps(pattern, one, more) and many_maps(pattern, other, more):
                    asked += 1
                    with self.subTest(sample=sample, one=one, other=other, more=more):
                        told = (product(pattern, one, more)[0], product(pattern, other, more)[0])
                        self.assertEqual(self.is_alike(sample, told[0], told[1]), wanted)
        self.assertGreater(asked, 300)

    def test_products_with_another_world_may_be_alike(self):
        # An arrow's points and no map of a loop into an arrow: both products have no arrows.
        pattern = made(GRAPH)
        circle = ((2, 2), ((0, 1), (1, 0)))
        loops = ((2, 2), ((0, 1), (0, 1)))
        points = ((0, 1), ((), ()))
        self.assertFalse(self.is_alike(GRAPH, circle, loops))
        self.assertTrue(self.is_alike(GRAPH, product(pattern, circle, points)[0], product(pattern, loops, points)[0]))

    def test_just_where_the_pieces_are_in_some_order(self):
        for sample, one, other in self.pairs(25):
            pattern = made(sample)
            here = [part_world(pattern, one, piece)[0] for piece in pieces(pattern, one)]
            there = [part_world(pattern, other, piece)[0] for piece in pieces(pattern, other)]
            found = len(here) == len(there) and any(
                all(slow_alike(sample, piece, more) for piece, more in zip(here, order))
                for order in itertools.permutations(there)
            )
            with self.subTest(sample=sample, one=one, other=other):
                self.assertEqual(self.is_alike(sample, one, other), found)


if __name__ == "__main__":
    unittest.main()
