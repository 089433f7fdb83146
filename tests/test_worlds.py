"""Promises 12 and 13, and 1 for worlds."""

import itertools
import unittest

from mapwright.patterns import Pattern
from mapwright.worlds import is_world, led, renumbered, things
from tests.samples import (
    ALL, ARROWS, CHAIN, FLIP, FLIPPED, GRAPH, LINKED, LOOPS, PLAIN, PLAIN_THREE, PLAIN_TWO, REST, RESTED, RIGHT, TURN,
    TURNED, made, nothing_of,
)


class Things(unittest.TestCase):
    """[12] How ways lead, and how many things there are."""

    def test_led_by_staying(self):
        for sample, world in RIGHT:
            for thing in range(max(world[0])):
                with self.subTest(sample=sample, thing=thing):
                    self.assertEqual(led(world, thing, -1), thing)

    def test_led_by_each_doing(self):
        for sample, world in RIGHT:
            for doing, act in enumerate(world[1]):
                for thing, goal in enumerate(act):
                    with self.subTest(sample=sample, doing=doing, thing=thing):
                        self.assertEqual(led(world, thing, doing), goal)

    def test_led_as_written_out(self):
        self.assertEqual([led(ARROWS, thing, 0) for thing in range(3)], [0, 1, 1])
        self.assertEqual([led(ARROWS, thing, 1) for thing in range(3)], [1, 1, 0])
        self.assertEqual([led(ARROWS, thing, -1) for thing in range(3)], [0, 1, 2])

    def test_led_by_two_doings_is_led_by_what_both_come_to(self):
        for sample, world in RIGHT:
            pattern = made(sample)
            for one, other in sample[2]:
                for thing in range(world[0][sample[1][one][0]]):
                    with self.subTest(sample=sample, one=one, other=other, thing=thing):
                        self.assertEqual(
                            led(world, led(world, thing, one), other),
                            led(world, thing, pattern.behind(one, other)),
                        )

    def test_things(self):
        told = (
            (((0,), ()), 0),
            (((1,), ()), 1),
            (((8,), ()), 8),
            (((0, 0, 0), ()), 0),
            (((1, 0, 2), ()), 3),
            (nothing_of(GRAPH), 0),
            (((0, 1), ((), ())), 1),
            (ARROWS, 5),
            (LINKED, 7),
            (((30, 12), ((0,) * 30, (1,) * 30)), 42),
        )
        for world, count in told:
            with self.subTest(world=world):
                self.assertEqual(things(world), count)


class IsWorld(unittest.TestCase):
    """[13] Whether two tuples are a world of a pattern."""

    def assert_world(self, sample, world):
        with self.subTest(sample=sample, world=world):
            self.assertIs(is_world(made(sample), world), True)

    def assert_none(self, sample, sizes, acts):
        with self.subTest(sample=sample, sizes=sizes, acts=acts):
            self.assertIs(is_world(made(sample), (sizes, acts)), False)

    def test_right_worlds(self):
        for sample, world in RIGHT:
            self.assert_world(sample, world)

    def test_the_world_without_things(self):
        for sample in ALL:
            self.assert_world(sample, nothing_of(sample))

    def test_the_world_of_one_thing_of_each_kind(self):
        for sample in ALL:
            self.assert_world(sample, ((1,) * sample[0], ((0,),) * len(sample[1])))

    def test_worlds_of_more_than_eight_things(self):
        self.assert_world(PLAIN, ((9,), ()))
        self.assert_world(PLAIN, ((10 ** 20,), ()))
        self.assert_world(FLIP, ((60,), (tuple(range(59, -1, -1)),)))
        self.assert_world(GRAPH, ((0, 10 ** 20), ((), ())))

    def test_a_size_more_or_less(self):
        for sample, world in RIGHT:
            for size in (0, 1, 5):
                self.assert_none(sample, world[0] + (size,), world[1])
            self.assert_none(sample, world[0][:-1], world[1])
            self.assert_none(sample, (), world[1])
        self.assert_none(PLAIN, (0, 0), ())
        self.assert_none(PLAIN, (), ())
        self.assert_none(PLAIN_THREE, (0, 0), ())
        self.assert_none(PLAIN_THREE, (0, 0, 0, 0), ())

    def test_a_size_below_nought(self):
        self.assert_none(PLAIN, (-1,), ())
        self.assert_none(PLAIN_TWO, (-1, 3), ())
        self.assert_none(PLAIN_TWO, (3, -1), ())
        self.assert_none(PLAIN_THREE, (1, -10, 1), ())
        self.assert_none(FLIP, (-1,), ((),))
        self.assert_none(GRAPH, (0, -1), ((), ()))
        self.assert_none(GRAPH, (-1, 0), ((), ()))

    def test_an_act_more_or_less(self):
        for sample, world in RIGHT:
            for act in ((), (0,)):
                self.assert_none(sample, world[0], world[1] + (act,))
            if world[1]:
                self.assert_none(sample, world[0], world[1][:-1])
                self.assert_none(sample, world[0], ())
        self.assert_none(GRAPH, (0, 0), ((),))
        self.assert_none(GRAPH, (0, 0), ((), (), ()))

    def test_an_act_too_long_or_too_short(self):
        for sample, world in RIGHT:
            for doing, act in enumerate(world[1]):
                for other in (act + (0,), act[:-1], ()):
                    self.assert_none(sample, world[0], world[1][:doing] + (other,) + world[1][doing + 1:])

    def test_a_number_beyond_or_below_nought(self):
        for sample, world in RIGHT:
            for doing, act in enumerate(world[1]):
                size = world[0][sample[1][doing][1]]
                for place in range(len(act)):
                    for number in (size, size + 5, -1, -size, 10 ** 20, -(10 ** 20), act[place] - size):
                        other = act[:place] + (number,) + act[place + 1:]
                        self.assert_none(sample, world[0], world[1][:doing] + (other,) + world[1][doing + 1:])

    def test_a_thing_led_to_where_nothing_is(self):
        self.assert_none(GRAPH, (1, 0), ((0,), (0,)))
        self.assert_none(FLIP, (0,), ((0,),))

    def test_an_act_is_held_to_its_own_kinds(self):
        # Right for the kinds the other way about.
        self.assert_none(GRAPH, (2, 3), ((0, 1, 1), (1, 1, 0)))
        self.assert_none((2, ((1, 0),), {}), (3, 2), ((0, 1, 1),))
        self.assert_world((2, ((1, 0),), {}), ((2, 3), ((0, 1, 1),)))

    def test_acts_that_break_what_two_doings_come_to(self):
        self.assert_none(FLIP, (2,), ((0, 0),))
        self.assert_none(FLIP, (3,), ((1, 2, 0),))
        self.assert_none(REST, (2,), ((1, 0),))
        self.assert_none(REST, (3,), ((1, 2, 2),))
        self.assert_none(TURN, (3,), ((1, 2, 0), (1, 2, 0)))
        self.assert_none(CHAIN, (2, 3, 2), ((2, 0), (1, 0, 0), (0, 0)))
        self.assert_none(CHAIN, (2, 3, 2), ((2, 0), (1, 0, 1), (0, 1)))
        self.assert_none(LOOPS, (3, 2), ((0, 0, 1), (0, 1, 1), (0, 2), (0, 0, 2), (0, 0, 2)))
        self.assert_none(LOOPS, (3, 2), ((0, 0, 1), (0, 1, 1), (0, 1), (0, 0, 1), (0, 1, 1)))

    def test_the_first_doing_is_done_first(self):
        table = {(0, 0): 0, (0, 1): 0, (1, 0): 1, (1, 1): 1}
        first = (1, ((0, 0), (0, 0)), table)
        last = (1, ((0, 0), (0, 0)), {(0, 0): 0, (0, 1): 1, (1, 0): 0, (1, 1): 1})
        # Both acts lead all to a thing of their own, so what is done last tells.
        self.assert_none(first, (2,), ((0, 0), (1, 1)))
        self.assert_world(last, ((2,), ((0, 0), (1, 1))))

    def test_all_acts_of_one_doing_counted_otherwise(self):
        # Acts that done twice are staying, and acts that done twice are themselves.
        told = ((FLIP, (1, 1, 2, 4, 10)), (REST, (1, 1, 3, 10, 41)))
        for sample, counts in told:
            pattern = made(sample)
            for size, count in enumerate(counts):
                with self.subTest(sample=sample, size=size):
                    acts = itertools.product(range(-1, size + 1), repeat=size)
                    self.assertEqual(sum([is_world(pattern, ((size,), (act,))) for act in acts]), count)


class Renumbered(unittest.TestCase):
    """[13] A world renumbered by orders."""

    def orders_of(self, world):
        return itertools.product(*[list(itertools.permutations(range(size))) for size in world[0]])

    def test_written_out(self):
        self.assertEqual(
            renumbered(made(GRAPH), ARROWS, ((1, 2, 0), (1, 0))),
            ((3, 2), ((0, 1, 0), (1, 0, 0))),
        )
        self.assertEqual(renumbered(made(FLIP), FLIPPED, ((1, 2, 0),)), ((3,), ((0, 2, 1),)))
        self.assertEqual(renumbered(made(REST), RESTED, ((1, 2, 3, 0),)), ((4,), ((2, 3, 2, 3),)))
        self.assertEqual(
            renumbered(made(CHAIN), LINKED, ((0, 1), (2, 0, 1), (0, 1))),
            ((2, 3, 2), ((1, 2), (0, 0, 1), (0, 1))),
        )

    def test_orders_that_change_nothing(self):
        for sample, world in RIGHT:
            with self.subTest(sample=sample):
                orders = tuple([tuple(range(size)) for size in world[0]])
                self.assertEqual(renumbered(made(sample), world, orders), world)

    def test_other_orders_that_change_nothing(self):
        # Both arrows are alike, so that it counts for nothing which is called which.
        world = ((2, 2), ((0, 0), (1, 1)))
        self.assertEqual(renumbered(made(GRAPH), world, ((1, 0), (0, 1))), world)
        self.assertEqual(renumbered(made(TURN), TURNED, ((1, 2, 0, 3),)), TURNED)

    def test_the_world_without_things(self):
        for sample in ALL:
            with self.subTest(sample=sample):
                world = nothing_of(sample)
                self.assertEqual(renumbered(made(sample), world, ((),) * sample[0]), world)

    def test_ways_lead_as_they_did_by_all_orders(self):
        for sample, world in RIGHT:
            pattern = made(sample)
            for orders in self.orders_of(world):
                other = renumbered(pattern, world, orders)
                with self.subTest(sample=sample, orders=orders):
                    self.assertEqual(other[0], world[0])
                    self.assertTrue(is_world(pattern, other))
                    self.assert_led_along(sample, world, other, orders)

    def assert_led_along(self, sample, world, other, orders):
        for doing, ends in enumerate(sample[1]):
            for thing in range(world[0][ends[0]]):
                self.assertEqual(
                    led(other, orders[ends[0]][thing], doing),
                    orders[ends[1]][led(world, thing, doing)],
                )

    def test_told_as_tuples_of_tuples(self):
        for sample, world in RIGHT:
            orders = tuple([tuple(reversed(range(size))) for size in world[0]])
            other = renumbered(made(sample), world, orders)
            with self.subTest(sample=sample):
                self.assertIs(type(other), tuple)
                self.assertEqual(len(other), 2)
                self.assertEqual([type(row) for row in other], [tuple, tuple])
                self.assertEqual([type(act) for act in other[1]], [tuple] * len(sample[1]))


class NothingHangsOnIt(unittest.TestCase):
    """[1] The pattern that is handed in stays, and asked again the same is told."""

    def told(self, pattern, world, orders):
        return (is_world(pattern, world), things(world), renumbered(pattern, world, orders))

    def test_asked_again_the_same_is_told(self):
        for sample, world in RIGHT:
            orders = tuple([tuple(reversed(range(size))) for size in world[0]])
            pattern = made(sample)
            with self.subTest(sample=sample):
                ahead = self.told(pattern, world, orders)
                is_world(pattern, ((7,), ((1,),)))
                self.assertEqual(self.told(pattern, world, orders), ahead)

    def test_the_pattern_stays(self):
        for sample, world in RIGHT:
            pattern = made(sample)
            self.told(pattern, world, tuple([tuple(reversed(range(size))) for size in world[0]]))
            with self.subTest(sample=sample):
                self.assertEqual((pattern.kinds(), pattern.doings()), sample[:2])
                self.assertEqual({pair: pattern.behind(pair[0], pair[1]) for pair in sample[2]}, sample[2])

    def test_the_table_changed_later_changes_no_world(self):
        table = {(0, 0): -1}
        pattern = Pattern(1, ((0, 0),), table)
        table[(0, 0)] = 0
        self.assertIs(is_world(pattern, ((2,), ((1, 0),))), True)
        self.assertIs(is_world(pattern, ((2,), ((0, 0),))), False)


if __name__ == "__main__":
    unittest.main()
