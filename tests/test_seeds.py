"""Promises 31 and 32, and 1 for seeds."""

import unittest

from mapwright.allmaps import many_maps, maps
from mapwright.maps import is_map
from mapwright.patterns import Pattern
from mapwright.seeds import map_at, seed, thing_at
from mapwright.worlds import is_world, led
from tests.samples import (
    ALL, ARROWS, CHAIN, FIRST, FLIP, FLIPPED, GRAPH, HOOK, LAST, LINKED, LOOPED, LOOPS, PLAIN, PLAIN_THREE, PLAIN_TWO,
    REST, RESTED, RIGHT, TURN, TURN_SIX, TURNED, made, nothing_of,
)
from tests.slow import slow_maps, small_worlds

SEEDS = (
    (PLAIN, 0, ((1,), ())),
    (PLAIN_TWO, 0, ((1, 0), ())),
    (PLAIN_TWO, 1, ((0, 1), ())),
    (PLAIN_THREE, 0, ((1, 0, 0), ())),
    (PLAIN_THREE, 1, ((0, 1, 0), ())),
    (PLAIN_THREE, 2, ((0, 0, 1), ())),
    # An arrow with its two points, and a point alone.
    (GRAPH, 0, ((1, 2), ((0,), (1,)))),
    (GRAPH, 1, ((0, 1), ((), ()))),
    (FLIP, 0, ((2,), ((1, 0),))),
    (REST, 0, ((2,), ((1, 1),))),
    (TURN, 0, ((3,), ((1, 2, 0), (2, 0, 1)))),
    (CHAIN, 0, ((1, 1, 1), ((0,), (0,), (0,)))),
    (CHAIN, 1, ((0, 1, 1), ((), (0,), ()))),
    (CHAIN, 2, ((0, 0, 1), ((), (), ()))),
    # Staying and doings 3, 4 lead to kind 0, doings 0, 1 to kind 1.
    (LOOPS, 0, ((3, 2), ((0, 0, 1), (1, 0, 1), (1, 2), (1, 1, 2), (2, 1, 2)))),
    (LOOPS, 1, ((1, 1), ((0,), (0,), (0,), (0,), (0,)))),
    (HOOK, 0, ((1, 1, 2), ((0,), (0,), (0, 1), (0,), (1,)))),
    (HOOK, 1, ((0, 1, 1), ((), (0,), (0,), (), ()))),
    (HOOK, 2, ((0, 0, 2), ((), (), (1, 1), (), ()))),
    (TURN_SIX, 0, ((6,), tuple([tuple([(way + turn) % 6 for way in range(6)]) for turn in range(1, 6)]))),
)


def kinds_and_things(world):
    """All things of a world, each with its kind."""
    return [(kind, thing) for kind, size in enumerate(world[0]) for thing in range(size)]


class Seeds(unittest.TestCase):
    """[31] The seed of a kind."""

    def test_written_out(self):
        for sample, kind, wanted in SEEDS:
            with self.subTest(sample=sample, kind=kind):
                self.assertEqual(seed(made(sample), kind), wanted)

    def test_every_seed_is_written_out(self):
        asked = [(sample, kind) for sample in ALL for kind in range(sample[0])]
        self.assertEqual(len(SEEDS), len(asked))
        for sample, kind, wanted in SEEDS:
            self.assertIn((sample, kind), asked)

    def test_it_is_a_world(self):
        for sample, kind, wanted in SEEDS:
            with self.subTest(sample=sample, kind=kind):
                self.assertIs(is_world(made(sample), seed(made(sample), kind)), True)

    def test_sizes_are_the_ways_by_where_they_lead(self):
        for sample, kind, wanted in SEEDS:
            pattern = made(sample)
            ends = [pattern.end(kind, way) for way in pattern.ways(kind)]
            with self.subTest(sample=sample, kind=kind):
                self.assertEqual(seed(pattern, kind)[0], tuple([ends.count(goal) for goal in range(sample[0])]))

    def test_each_doing_leads_a_way_to_what_both_come_to(self):
        for sample, kind, wanted in SEEDS:
            pattern = made(sample)
            told = seed(pattern, kind)
            rows = [[way for way in pattern.ways(kind) if pattern.end(kind, way) == goal] for goal in range(sample[0])]
            for doing, (start, goal) in enumerate(sample[1]):
                for thing, way in enumerate(rows[start]):
                    with self.subTest(sample=sample, kind=kind, doing=doing, way=way):
                        self.assertEqual(rows[goal][told[1][doing][thing]], pattern.behind(way, doing))

    def test_the_way_comes_first_and_then_the_doing(self):
        self.assertEqual(seed(made(FIRST), 0), ((3,), ((1, 1, 2), (2, 1, 2))))
        self.assertEqual(seed(made(LAST), 0), ((3,), ((1, 1, 1), (2, 2, 2))))

    def test_tuples_of_tuples(self):
        for sample, kind, wanted in SEEDS:
            told = seed(made(sample), kind)
            with self.subTest(sample=sample, kind=kind):
                self.assertEqual([type(told), type(told[0]), type(told[1])], [tuple] * 3)
                self.assertEqual([type(act) for act in told[1]], [tuple] * len(sample[1]))


class ThingsAreMaps(unittest.TestCase):
    """[32] The thing tells the map of the seed, and the map the thing."""

    def test_written_out(self):
        self.assertEqual(map_at(made(GRAPH), ARROWS, 0, 2), ((2,), (1, 0)))
        self.assertEqual(map_at(made(GRAPH), ARROWS, 1, 1), ((), (1,)))
        self.assertEqual(map_at(made(FLIP), FLIPPED, 0, 1), ((1, 0),))
        self.assertEqual(map_at(made(FLIP), FLIPPED, 0, 2), ((2, 2),))
        self.assertEqual(map_at(made(REST), RESTED, 0, 3), ((3, 1),))
        self.assertEqual(map_at(made(TURN), TURNED, 0, 1), ((1, 2, 0),))
        self.assertEqual(map_at(made(CHAIN), LINKED, 0, 0), ((0,), (2,), (0,)))
        self.assertEqual(map_at(made(CHAIN), LINKED, 1, 0), ((), (0,), (1,)))
        self.assertEqual(map_at(made(LOOPS), LOOPED, 0, 1), ((1, 0, 2), (0, 1)))
        self.assertEqual(map_at(made(PLAIN_THREE), ((1, 0, 2), ()), 2, 1), ((), (), (1,)))

    def test_thing_written_out(self):
        self.assertEqual(thing_at(0, ((2,), (1, 0))), 2)
        self.assertEqual(thing_at(1, ((), (1,))), 1)
        self.assertEqual(thing_at(0, ((3, 1),)), 3)
        self.assertEqual(thing_at(1, ((), (0,), (1,))), 0)
        self.assertEqual(thing_at(2, ((), (), (4, 5))), 4)

    def test_each_thing_of_each_world(self):
        for sample in ALL:
            worlds = [world for other, world in RIGHT if other == sample] + small_worlds(sample)
            for world in worlds:
                for kind, thing in kinds_and_things(world):
                    with self.subTest(sample=sample, world=world, kind=kind, thing=thing):
                        self.assert_right(made(sample), world, kind, thing)

    def assert_right(self, pattern, world, kind, thing):
        some = map_at(pattern, world, kind, thing)
        self.assertTrue(is_map(pattern, seed(pattern, kind), world, some))
        self.assertEqual([type(row) for row in some], [tuple] * pattern.kinds())
        self.assertIs(type(some), tuple)
        for goal, row in enumerate(some):
            ways = [way for way in pattern.ways(kind) if pattern.end(kind, way) == goal]
            self.assertEqual(row, tuple([led(world, thing, way) for way in ways]))
        self.assertEqual(thing_at(kind, some), thing)
        self.assertIs(type(thing_at(kind, some)), int)

    def test_as_many_maps_as_things(self):
        for sample in ALL:
            pattern = made(sample)
            worlds = [world for other, world in RIGHT if other == sample] + small_worlds(sample) + [nothing_of(sample)]
            for world in worlds:
                for kind, size in enumerate(world[0]):
                    with self.subTest(sample=sample, world=world, kind=kind):
                        start = seed(pattern, kind)
                        self.assertEqual(many_maps(pattern, start, world), size)
                        told = maps(pattern, start, world)
                        self.assertEqual(sorted([thing_at(kind, some) for some in told]), list(range(size)))
                        for some in told:
                            self.assertEqual(map_at(pattern, world, kind, thing_at(kind, some)), some)

    def test_just_one_map_takes_staying_to_a_thing(self):
        for sample, world in RIGHT:
            pattern = made(sample)
            for kind, thing in kinds_and_things(world):
                with self.subTest(sample=sample, kind=kind, thing=thing):
                    found = [some for some in slow_maps(sample, seed(pattern, kind), world) if some[kind][0] == thing]
                    self.assertEqual(found, [map_at(pattern, world, kind, thing)])

    def test_the_seed_itself_stays(self):
        for sample, kind, wanted in SEEDS:
            with self.subTest(sample=sample, kind=kind):
                rows = tuple([tuple(range(size)) for size in wanted[0]])
                self.assertEqual(map_at(made(sample), wanted, kind, 0), rows)


class NothingHangsOnIt(unittest.TestCase):
    """[1] The pattern stays, and asked again the same is told."""

    def test_asked_again_the_same_is_told(self):
        for sample, kind, wanted in SEEDS:
            pattern = made(sample)
            with self.subTest(sample=sample, kind=kind):
                ahead = (seed(pattern, kind), map_at(pattern, wanted, kind, 0))
                pattern.ways(kind).clear()
                self.assertEqual((seed(pattern, kind), map_at(pattern, wanted, kind, 0)), ahead)
                self.assertEqual((pattern.kinds(), pattern.doings()), sample[:2])

    def test_the_table_changed_later_changes_no_seed(self):
        table = {(0, 0): -1}
        pattern = Pattern(1, ((0, 0),), table)
        table[(0, 0)] = 0
        self.assertEqual(seed(pattern, 0), ((2,), ((1, 0),)))
        self.assertEqual(map_at(pattern, FLIPPED, 0, 1), ((1, 0),))


if __name__ == "__main__":
    unittest.main()
