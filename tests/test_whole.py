"""Promise 2: a world is told by its maps; and 1 over the whole program."""

import random
import unittest

from mapwright import errors
from mapwright.alike import alike, shows
from mapwright.allmaps import many_maps
from mapwright.joins import product, sum_of
from mapwright.powers import brought, carried, power
from mapwright.sayings import breaks, follows, judged
from mapwright.seeds import map_at, seed, thing_at
from mapwright.truths import all_parts, character, part_by, truths
from tests.samples import ALL, ARROWS, FIRST, GRAPH, LAST, RIGHT, made
from tests.slow import slow_maps, slow_parts, small_worlds, some_pairs

PATTERNS = ALL + (FIRST, LAST)


def some_worlds(sample, limit):
    worlds = small_worlds(sample)
    return worlds[::max(1, len(worlds) // limit)] + [world for other, world in RIGHT if other == sample]


class TheWhole(unittest.TestCase):
    """[2] Things, parts, maps of products, and worlds themselves are told by maps."""

    def test_things_of_a_kind_are_as_many_as_maps_of_its_seed(self):
        for sample in PATTERNS:
            pattern = made(sample)
            for world in some_worlds(sample, 40) + [truths(pattern)[0]]:
                for kind in range(sample[0]):
                    with self.subTest(sample=sample, world=world, kind=kind):
                        self.assertEqual(many_maps(pattern, seed(pattern, kind), world), world[0][kind])
                        things = list(range(world[0][kind]))
                        found = [thing_at(kind, map_at(pattern, world, kind, thing)) for thing in things]
                        self.assertEqual(found, things)

    def test_parts_are_as_many_as_maps_into_the_truths(self):
        for sample in PATTERNS:
            pattern = made(sample)
            for world in some_worlds(sample, 40):
                parts = slow_parts(sample, world)
                with self.subTest(sample=sample, world=world):
                    self.assertEqual(all_parts(pattern, world), parts)
                    self.assertEqual(many_maps(pattern, world, truths(pattern)[0]), len(parts))
                    found = [part_by(pattern, world, character(pattern, world, part)) for part in parts]
                    self.assertEqual(found, parts)

    def test_maps_of_a_product_are_as_many_as_maps_into_a_world_of_all_maps(self):
        asked = 0
        for sample in PATTERNS:
            pattern = made(sample)
            further = some_worlds(sample, 6)
            for one, other in some_pairs(sample, limit=12):
                told = power_or_none(pattern, one, other)
                for more in further if told is not None else ():
                    asked += 1
                    with self.subTest(sample=sample, one=one, other=other, more=more):
                        whole = product(pattern, more, one)[0]
                        self.assertEqual(many_maps(pattern, whole, other), many_maps(pattern, more, told[0]))
        self.assertGreater(asked, 500)

    def test_each_map_of_a_product_is_carried_and_brought_back(self):
        pattern = made(GRAPH)
        arrow = seed(pattern, 0)
        for some in slow_maps(GRAPH, product(pattern, arrow, arrow)[0], ARROWS):
            there = carried(pattern, arrow, arrow, ARROWS, some)
            self.assertEqual(brought(pattern, arrow, arrow, ARROWS, there), some)

    def test_worlds_are_alike_just_where_each_has_as_many_maps_into_both(self):
        for sample in PATTERNS:
            pattern = made(sample)
            further = some_worlds(sample, 25)
            for one, other in some_pairs(sample, limit=40):
                paper = alike(pattern, one, other)
                with self.subTest(sample=sample, one=one, other=other):
                    self.assertTrue(shows(pattern, one, other, paper))
                    if paper[0] == "alike":
                        for more in further:
                            self.assertEqual(many_maps(pattern, more, one), many_maps(pattern, more, other))

    def test_a_saying_holds_just_where_it_can_be_shown(self):
        chance = random.Random(2)
        ends = ((0, 1), (0, 1), (1, 2), (1, 2), (0, 2), (2, 3))
        pairs = (((0,), (1,)), ((2,), (3,)), ((0, 2), (1, 3)), ((0, 2), (4,)), ((1, 3, 5), (4, 5)), ((2, 5), (3, 5)))
        told = []
        for time in range(200):
            given = [("same",) + chance.choice(pairs) for same in range(chance.randint(0, 3))]
            given.extend([("apart", chance.randrange(6)) for apart in range(chance.randint(0, 3))])
            saying = (ends, tuple(given), chance.choice(pairs))
            found = judged(saying)
            told.append(found[0])
            with self.subTest(saying=saying):
                if found[0] == "holds":
                    self.assertTrue(follows(saying, found[1]))
                else:
                    self.assertTrue(breaks(saying, found[1], found[2]))
                    self.assertFalse(follows(saying, ()))
        self.assertEqual(sorted(set(told)), ["breaks", "holds"])

    def test_maps_of_a_sum_and_into_a_product_are_pairs_of_maps(self):
        for sample in PATTERNS:
            pattern = made(sample)
            for one, other in some_pairs(sample, limit=15):
                for more in some_worlds(sample, 5):
                    with self.subTest(sample=sample, one=one, other=other, more=more):
                        self.assertEqual(
                            many_maps(pattern, sum_of(pattern, one, other)[0], more),
                            many_maps(pattern, one, more) * many_maps(pattern, other, more),
                        )
                        self.assertEqual(
                            many_maps(pattern, more, product(pattern, one, other)[0]),
                            many_maps(pattern, more, one) * many_maps(pattern, more, other),
                        )


def power_or_none(pattern, one, other):
    try:
        return power(pattern, one, other)
    except errors.TooMany:
        return None


if __name__ == "__main__":
    unittest.main()
