"""Promises 60 to 63, and 1 for truths and parts."""

import itertools
import unittest

from mapwright import errors
from mapwright.allmaps import many_maps, maps
from mapwright.joins import nothing, product, sum_of
from mapwright.maps import is_map, staying
from mapwright.parts import is_part
from mapwright.patterns import Pattern
from mapwright.truths import all_parts, any_of, both, character, lacks, leads, least_part, part_by, truths
from mapwright.worlds import is_world, led
from tests.kinds import assert_tuples
from tests.refusals import assert_refused
from tests.samples import (
    ALL, ARROWS, CHAIN, FIRST, FLIP, FLIPPED, GRAPH, LAST, LINKED, LOOPED, LOOPS, PLAIN, PLAIN_THREE, PLAIN_TWO, REST,
    RESTED, RIGHT, TURN, TURN_SIX, TURNED, empty_part, made, nothing_of, singles_of,
)
from tests.slow import slow_parts, small_worlds

BOTH = ((), (-1,))

TRUTHS = (
    (PLAIN, ((2,), ()), (BOTH,)),
    (PLAIN_TWO, ((2, 2), ()), (BOTH, BOTH)),
    (PLAIN_THREE, ((2, 2, 2), ()), (BOTH, BOTH, BOTH)),
    (GRAPH, ((5, 2), ((0, 1, 1, 1, 0), (0, 1, 0, 1, 1))), (((), (-1, 0, 1), (0,), (0, 1), (1,)), BOTH)),
    (FLIP, ((2,), ((0, 1),)), (((), (-1, 0)),)),
    (REST, ((3,), ((0, 1, 1),)), (((), (-1, 0), (0,)),)),
    (TURN, ((2,), ((0, 1), (0, 1))), (((), (-1, 0, 1)),)),
    (CHAIN, ((4, 3, 2), ((0, 1, 1, 2), (0, 1, 1), (0, 1, 1, 1))), (
        ((), (-1, 0, 2), (0, 2), (2,)), ((), (-1, 1), (1,)), BOTH,
    )),
    (LOOPS, ((5, 2), ((0, 1, 1, 1, 0), (0, 1, 1, 0, 1), (0, 1), (0, 1, 1, 1, 0), (0, 1, 1, 0, 1))), (
        ((), (-1, 0, 1, 3, 4), (0, 1, 3, 4), (0, 3), (1, 4)), ((), (-1, 2)),
    )),
    (FIRST, ((5,), ((0, 1, 1, 1, 0), (0, 1, 0, 1, 1))), (((), (-1, 0, 1), (0,), (0, 1), (1,)),)),
    (LAST, ((3,), ((0, 1, 1), (0, 1, 1))), (((), (-1, 0, 1), (0, 1)),)),
)

# A world, a part, and its character, by the crowds as they stand above.
CHARACTERS = (
    (PLAIN, ((3,), ()), ((1,),), ((0, 1, 0),)),
    (PLAIN_TWO, ((2, 1), ()), ((0,), ()), ((1, 0), (0,))),
    # Of arrow 0 only the last point lies in the part, of arrow 2 only the first.
    (GRAPH, ARROWS, ((), (1,)), ((4, 3, 2), (0, 1))),
    (GRAPH, ARROWS, ((1,), (1,)), ((4, 1, 2), (0, 1))),
    (GRAPH, ARROWS, ((0,), (0, 1)), ((1, 3, 3), (1, 1))),
    (FLIP, FLIPPED, ((0, 1),), ((1, 1, 0),)),
    (REST, RESTED, ((2,),), ((2, 0, 1, 0),)),
    (REST, RESTED, ((0, 1, 2),), ((1, 1, 1, 2),)),
    (CHAIN, LINKED, ((), (2,), (0,)), ((2, 0), (0, 2, 1), (1, 0))),
    (CHAIN, LINKED, ((0,), (2,), (0, 1)), ((1, 3), (2, 2, 1), (1, 1))),
    (LOOPS, LOOPED, ((0,), (0,)), ((1, 3, 0), (1, 0))),
    (LOOPS, LOOPED, ((0, 2), (0, 1)), ((1, 2, 1), (1, 1))),
)

ALL_PARTS = (
    (PLAIN, ((2,), ()), [((),), ((0,),), ((0, 1),), ((1,),)]),
    (PLAIN_TWO, ((1, 1), ()), [((), ()), ((), (0,)), ((0,), ()), ((0,), (0,))]),
    (GRAPH, ((1, 2), ((0,), (1,))), [((), ()), ((), (0,)), ((), (0, 1)), ((), (1,)), ((0,), (0, 1))]),
    (GRAPH, ((1, 1), ((0,), (0,))), [((), ()), ((), (0,)), ((0,), (0,))]),
    (FLIP, FLIPPED, [((),), ((0, 1),), ((0, 1, 2),), ((2,),)]),
    (REST, ((3,), ((1, 1, 1),)), [((),), ((0, 1),), ((0, 1, 2),), ((1,),), ((1, 2),)]),
    (TURN, TURNED, [((),), ((0, 1, 2),), ((0, 1, 2, 3),), ((3,),)]),
    (LOOPS, LOOPED, [((), ()), ((0,), (0,)), ((0, 1, 2), (0, 1)), ((0, 2), (0, 1)), ((2,), (1,))]),
)

# Three arrows between two points each, and two points more: 5 * 5 * 5 * 2 * 2 parts.
JUST_500 = ((3, 8), ((0, 2, 4), (1, 3, 5)))
# Below one thing of kind 2 five of kind 1, to three of which two of kind 0 are led: 1 + 5 * 5 * 5 * 2 * 2 parts.
JUST_501 = ((6, 5, 1), ((0, 0, 1, 1, 2, 2), (0,) * 5, (0,) * 6))


def some_worlds(sample, limit=12):
    """The sample worlds and some small ones, of those with few parts."""
    worlds = small_worlds(sample)
    chosen = worlds[::max(1, len(worlds) // limit)] + [world for other, world in RIGHT if other == sample]
    return [world for world in chosen if sum(world[0]) < 6]


def slow_crowds(pattern, kind):
    """All crowds of a kind, in their order."""
    ways = pattern.ways(kind)
    found = []
    for crowd in [crowd for many in range(len(ways) + 1) for crowd in itertools.combinations(ways, many)]:
        behind = [pattern.behind(way, more) for way in crowd for more in pattern.ways(pattern.end(kind, way))]
        if set(behind) <= set(crowd):
            found.append(crowd)
    return sorted(found)


def members(part):
    """All (kind, thing) of a part."""
    return {(kind, thing) for kind, row in enumerate(part) for thing in row}


def lies_within(one, other):
    return members(one) <= members(other)


def ways_into(pattern, world, kind, thing, part):
    """The ways that lead a thing into a part."""
    return [way for way in pattern.ways(kind) if led(world, thing, way) in part[pattern.end(kind, way)]]


class Truths(unittest.TestCase):
    """[60] The world of truths, and its crowds."""

    def test_written_out(self):
        for sample, world, crowds in TRUTHS:
            with self.subTest(sample=sample):
                self.assertEqual(truths(made(sample)), (world, crowds))

    def test_all_crowds_against_a_slow_search(self):
        for sample in ALL + (FIRST, LAST):
            pattern = made(sample)
            told = truths(pattern)
            with self.subTest(sample=sample):
                assert_tuples(self, told)
                self.assertEqual(len(told), 2)
                self.assertEqual(told[1], tuple([tuple(slow_crowds(pattern, kind)) for kind in range(sample[0])]))
                self.assertEqual(told[0][0], tuple([len(row) for row in told[1]]))
                for kind, row in enumerate(told[1]):
                    self.assertEqual(row[0], ())
                    self.assertEqual(row[1], tuple(pattern.ways(kind)))

    def test_where_doings_lead_crowds(self):
        for sample in ALL + (FIRST, LAST):
            pattern = made(sample)
            world, crowds = truths(pattern)
            for doing, (start, goal) in enumerate(sample[1]):
                for number, crowd in enumerate(crowds[start]):
                    wanted = tuple([way for way in pattern.ways(goal) if pattern.behind(doing, way) in crowd])
                    with self.subTest(sample=sample, doing=doing, crowd=crowd):
                        self.assertEqual(crowds[goal][world[1][doing][number]], wanted)

    def test_it_is_a_world(self):
        for sample in ALL + (FIRST, LAST):
            with self.subTest(sample=sample):
                self.assertTrue(is_world(made(sample), truths(made(sample))[0]))

    def test_the_most_crowds(self):
        # Of five doings the one counts that is done first, so that each set of them is a crowd.
        pattern = Pattern(1, ((0, 0),) * 5, {(one, other): one for one in range(5) for other in range(5)})
        told = truths(pattern)
        self.assertEqual(told[0][0], (33,))
        self.assertEqual(told[1], (tuple(slow_crowds(pattern, 0)),))
        self.assertTrue(is_world(pattern, told[0]))
        # Five doings to a second kind, of which again each set is one.
        pattern = Pattern(2, ((0, 1),) * 5, {})
        self.assertEqual(truths(pattern)[0][0], (33, 2))


class Characters(unittest.TestCase):
    """[61] The character of a part, and the part of which a map is the character."""

    def test_written_out(self):
        for sample, world, part, wanted in CHARACTERS:
            pattern = made(sample)
            with self.subTest(sample=sample, world=world, part=part):
                self.assertEqual(character(pattern, world, part), wanted)
                self.assertEqual(part_by(pattern, world, wanted), part)

    def test_the_empty_part_and_the_whole(self):
        for sample, world in RIGHT:
            pattern = made(sample)
            none = tuple([(0,) * size for size in world[0]])
            whole = tuple([(1,) * size for size in world[0]])
            with self.subTest(sample=sample):
                self.assertEqual(character(pattern, world, empty_part(sample)), none)
                self.assertEqual(character(pattern, world, staying(world)), whole)
                self.assertEqual(part_by(pattern, world, none), empty_part(sample))
                self.assertEqual(part_by(pattern, world, whole), staying(world))

    def test_each_part_of_each_world(self):
        for sample in ALL + (FIRST, LAST):
            pattern = made(sample)
            told = truths(pattern)
            for world in some_worlds(sample):
                found = []
                for part in slow_parts(sample, world):
                    with self.subTest(sample=sample, world=world, part=part):
                        found.append(self.assert_right(pattern, world, part, told))
                self.assertEqual(sorted(found), maps(pattern, world, told[0]))

    def assert_right(self, pattern, world, part, told):
        some = character(pattern, world, part)
        assert_tuples(self, some)
        self.assertTrue(is_map(pattern, world, told[0], some))
        for kind, row in enumerate(some):
            for thing, number in enumerate(row):
                self.assertEqual(told[1][kind][number], tuple(ways_into(pattern, world, kind, thing, part)))
        back = part_by(pattern, world, some)
        assert_tuples(self, back)
        self.assertEqual(back, part)
        return some

    def test_each_map_into_the_truths(self):
        for sample in ALL + (FIRST, LAST):
            pattern = made(sample)
            for world in some_worlds(sample):
                for some in maps(pattern, world, truths(pattern)[0]):
                    part = part_by(pattern, world, some)
                    with self.subTest(sample=sample, world=world, some=some):
                        self.assertTrue(is_part(pattern, world, part))
                        self.assertEqual(character(pattern, world, part), some)

    def test_as_many_maps_as_parts(self):
        for sample in ALL + (FIRST, LAST):
            pattern = made(sample)
            for world in some_worlds(sample, limit=40) + [truths(pattern)[0]]:
                with self.subTest(sample=sample, world=world):
                    many = many_maps(pattern, world, truths(pattern)[0])
                    self.assertEqual(many, len(all_parts(pattern, world)))
        self.assertEqual(many_maps(made(GRAPH), JUST_500, truths(made(GRAPH))[0]), 500)
        self.assertEqual(many_maps(made(CHAIN), JUST_501, truths(made(CHAIN))[0]), 501)


class AllParts(unittest.TestCase):
    """[62] All parts of a world."""

    def test_written_out(self):
        for sample, world, wanted in ALL_PARTS:
            with self.subTest(sample=sample, world=world):
                self.assertEqual(all_parts(made(sample), world), wanted)

    def test_of_a_world_without_things(self):
        for sample in ALL:
            self.assertEqual(all_parts(made(sample), nothing_of(sample)), [empty_part(sample)])

    def test_against_a_slow_search(self):
        for sample in ALL + (FIRST, LAST):
            worlds = small_worlds(sample)
            for world in worlds[::max(1, len(worlds) // 60)] + [world for other, world in RIGHT if other == sample]:
                told = all_parts(made(sample), world)
                with self.subTest(sample=sample, world=world):
                    self.assertEqual(told, slow_parts(sample, world))
                    self.assertIs(type(told), list)
                    for part in told:
                        assert_tuples(self, part)

    def test_just_500_are_told(self):
        for sample, world in ((GRAPH, JUST_500), (PLAIN, ((8,), ())), (PLAIN_TWO, ((3, 5), ()))):
            told = all_parts(made(sample), world)
            with self.subTest(sample=sample):
                self.assertEqual(told, slow_parts(sample, world))
        self.assertEqual(len(all_parts(made(GRAPH), JUST_500)), 500)

    def test_501_are_refused(self):
        self.assertEqual(len(slow_parts(CHAIN, JUST_501)), 501)
        assert_refused(self, errors.TooMany, lambda: all_parts(made(CHAIN), JUST_501))

    def test_more_are_refused(self):
        refused = (
            (PLAIN, ((9,), ())), (PLAIN_TWO, ((8, 1), ())), (PLAIN_TWO, ((1, 8), ())), (PLAIN_THREE, ((3, 3, 3), ())),
            (GRAPH, ((0, 9), ((), ()))), (FLIP, singles_of(FLIP, 9)), (GRAPH, ((9, 1), ((0,) * 9, (0,) * 9))),
            (REST, ((10,), ((9,) * 10,))),
        )
        for sample, world in refused:
            pattern = made(sample)
            with self.subTest(sample=sample, world=world):
                assert_refused(self, errors.TooMany, lambda: all_parts(pattern, world))
        # One thing less, and so 1 + 2 ** 8 and 3 + 2 ** 8 parts.
        self.assertEqual(len(all_parts(made(GRAPH), ((8, 1), ((0,) * 8, (0,) * 8)))), 257)
        self.assertEqual(len(all_parts(made(GRAPH), ((8, 2), ((0,) * 8, (1,) * 8)))), 259)

    def test_very_many_more_are_refused(self):
        refused = (
            (PLAIN_THREE, ((8, 8, 8), ())), (PLAIN, ((60,), ())), (GRAPH, singles_of(GRAPH, 60)),
            (TURN_SIX, singles_of(TURN_SIX, 60)), (CHAIN, singles_of(CHAIN, 300)), (PLAIN, ((4000,), ())),
        )
        for sample, world in refused:
            pattern = made(sample)
            with self.subTest(sample=sample, sizes=world[0]):
                assert_refused(self, errors.TooMany, lambda: all_parts(pattern, world))

    def test_few_parts_of_many_things(self):
        # Eight times six things that lead to one another.
        pattern = made(TURN_SIX)
        turned = ((6,), tuple([tuple([(thing + turn) % 6 for thing in range(6)]) for turn in range(1, 6)]))
        world = nothing(pattern)
        for time in range(8):
            world = sum_of(pattern, world, turned)[0]
        self.assertEqual(len(all_parts(pattern, world)), 256)
        world = sum_of(pattern, world, turned)[0]
        assert_refused(self, errors.TooMany, lambda: all_parts(pattern, world))

    def test_of_a_product(self):
        pattern = made(FLIP)
        world = product(pattern, FLIPPED, FLIPPED)[0]
        self.assertEqual(all_parts(pattern, world), slow_parts(FLIP, world))


class LeastPart(unittest.TestCase):
    """[62] The least part with some things."""

    def test_of_no_thing(self):
        for sample, world in RIGHT:
            self.assertEqual(least_part(made(sample), world, []), empty_part(sample))

    def test_of_one(self):
        self.assertEqual(least_part(made(PLAIN), ((3,), ()), [(0, 1)]), ((1,),))
        self.assertEqual(least_part(made(GRAPH), ARROWS, [(0, 0)]), ((0,), (0, 1)))
        self.assertEqual(least_part(made(GRAPH), ARROWS, [(0, 1)]), ((1,), (1,)))
        self.assertEqual(least_part(made(GRAPH), ARROWS, [(1, 0)]), ((), (0,)))
        self.assertEqual(least_part(made(FLIP), FLIPPED, [(0, 1)]), ((0, 1),))
        self.assertEqual(least_part(made(REST), RESTED, [(0, 3)]), ((1, 3),))
        self.assertEqual(least_part(made(TURN), TURNED, [(0, 2)]), ((0, 1, 2),))
        self.assertEqual(least_part(made(CHAIN), LINKED, [(0, 1)]), ((1,), (0,), (1,)))
        self.assertEqual(least_part(made(LOOPS), LOOPED, [(0, 1)]), ((0, 1, 2), (0, 1)))
        self.assertEqual(least_part(made(LOOPS), LOOPED, [(1, 1)]), ((2,), (1,)))

    def test_of_several(self):
        self.assertEqual(least_part(made(PLAIN), ((5,), ()), [(0, 4), (0, 1), (0, 4)]), ((1, 4),))
        self.assertEqual(least_part(made(GRAPH), ARROWS, [(0, 1), (1, 0)]), ((1,), (0, 1)))
        self.assertEqual(least_part(made(GRAPH), ARROWS, [(0, 2), (0, 1)]), ((1, 2), (0, 1)))
        self.assertEqual(least_part(made(REST), RESTED, [(0, 3), (0, 0)]), ((0, 1, 2, 3),))
        self.assertEqual(least_part(made(CHAIN), LINKED, [(2, 0), (1, 0)]), ((), (0,), (0, 1)))

    def test_it_is_the_least(self):
        for sample in ALL + (FIRST, LAST):
            pattern = made(sample)
            for world in some_worlds(sample):
                parts = slow_parts(sample, world)
                spots = sorted(members(staying(world)))
                lists = [list(some) for many in range(3) for some in itertools.product(spots, repeat=many)]
                for some in lists + [spots]:
                    told = least_part(pattern, world, some)
                    with self.subTest(sample=sample, world=world, some=some):
                        assert_tuples(self, told)
                        self.assertIn(told, parts)
                        with_some = [part for part in parts if set(some) <= members(part)]
                        self.assertIn(told, with_some)
                        self.assertTrue(all([lies_within(told, part) for part in with_some]))


class BothAndAny(unittest.TestCase):
    """[62] What lies in both of two parts, and in one of them at least."""

    def test_written_out(self):
        self.assertEqual(both(((0, 1, 3),), ((1, 2, 3),)), ((1, 3),))
        self.assertEqual(any_of(((0, 1, 3),), ((1, 2, 3),)), ((0, 1, 2, 3),))
        self.assertEqual(both(((0,), (0, 1)), ((), (1,))), ((), (1,)))
        self.assertEqual(any_of(((2,), (0, 1)), ((), (5,))), ((2,), (0, 1, 5)))
        self.assertEqual(both(((), ()), ((), (0,))), ((), ()))
        self.assertEqual(any_of(((), ()), ((), ())), ((), ()))
        # Numbers far apart, so that no order of a dict or of hashes happens to rise.
        self.assertEqual(any_of(((7, 40, 1000),), ((3, 64, 129),)), ((3, 7, 40, 64, 129, 1000),))
        self.assertEqual(both(((8, 33, 64, 1000),), ((8, 64, 999, 1000),)), ((8, 64, 1000),))

    def test_all_pairs_of_parts(self):
        for sample in ALL:
            pattern = made(sample)
            for world in some_worlds(sample):
                parts = slow_parts(sample, world)
                for one, other in itertools.product(parts, repeat=2):
                    lower = both(one, other)
                    upper = any_of(one, other)
                    with self.subTest(sample=sample, world=world, one=one, other=other):
                        assert_tuples(self, (lower, upper))
                        self.assertEqual(members(lower), members(one) & members(other))
                        self.assertEqual(members(upper), members(one) | members(other))
                        self.assertTrue(is_part(pattern, world, lower))
                        self.assertTrue(is_part(pattern, world, upper))


class LeadsAndLacks(unittest.TestCase):
    """[63] Where one part leads to another one, and what lacks a part."""

    def test_written_out(self):
        pattern = made(PLAIN)
        self.assertEqual(leads(pattern, ((4,), ()), ((0, 1),), ((1, 2),)), ((1, 2, 3),))
        self.assertEqual(lacks(pattern, ((4,), ()), ((0, 2),)), ((1, 3),))
        pattern = made(GRAPH)
        # Point 0 lies in the first part and not in the second, so nothing does that leads there.
        self.assertEqual(leads(pattern, ARROWS, ((), (0, 1)), ((), (1,))), ((1,), (1,)))
        self.assertEqual(leads(pattern, ARROWS, ((1,), (1,)), ((), (1,))), ((0, 2), (0, 1)))
        self.assertEqual(lacks(pattern, ARROWS, ((), (0,))), ((1,), (1,)))
        self.assertEqual(lacks(pattern, ARROWS, ((1,), (1,))), ((), (0,)))
        self.assertEqual(lacks(made(FLIP), FLIPPED, ((2,),)), ((0, 1),))
        self.assertEqual(lacks(made(REST), RESTED, ((2,),)), ((1, 3),))
        self.assertEqual(leads(made(REST), RESTED, ((0, 2),), ((2,),)), ((1, 2, 3),))
        self.assertEqual(leads(made(CHAIN), LINKED, ((), (2,), (0,)), ((), (), (0,))), ((1,), (0, 1), (0, 1)))

    def test_of_the_empty_part_and_the_whole(self):
        for sample, world in RIGHT:
            pattern = made(sample)
            whole = staying(world)
            empty = empty_part(sample)
            with self.subTest(sample=sample):
                self.assertEqual(lacks(pattern, world, empty), whole)
                self.assertEqual(lacks(pattern, world, whole), empty)
                self.assertEqual(leads(pattern, world, empty, empty), whole)
                self.assertEqual(leads(pattern, world, whole, whole), whole)
                self.assertEqual(leads(pattern, world, whole, empty), empty)

    def test_all_pairs_of_parts(self):
        for sample in ALL + (FIRST, LAST):
            pattern = made(sample)
            for world in some_worlds(sample, limit=8):
                parts = slow_parts(sample, world)
                for one, other in itertools.product(parts, repeat=2):
                    with self.subTest(sample=sample, world=world, one=one, other=other):
                        self.assert_leads(pattern, world, parts, one, other)

    def assert_leads(self, pattern, world, parts, one, other):
        told = leads(pattern, world, one, other)
        assert_tuples(self, told)
        self.assertIn(told, parts)
        # A part lies in it just where what lies in both it and the one lies in the other; so it is the greatest such.
        for part in parts:
            self.assertEqual(lies_within(part, told), lies_within(both(part, one), other))
        for kind, size in enumerate(world[0]):
            for thing in range(size):
                here = ways_into(pattern, world, kind, thing, one)
                there = ways_into(pattern, world, kind, thing, other)
                self.assertEqual(thing in told[kind], set(here) <= set(there))

    def test_what_lacks_each_part(self):
        for sample in ALL + (FIRST, LAST):
            pattern = made(sample)
            for world in some_worlds(sample, limit=20):
                parts = slow_parts(sample, world)
                for part in parts:
                    told = lacks(pattern, world, part)
                    with self.subTest(sample=sample, world=world, part=part):
                        assert_tuples(self, told)
                        self.assertIn(told, parts)
                        apart = [other for other in parts if not members(other) & members(part)]
                        self.assertIn(told, apart)
                        self.assertTrue(all([lies_within(other, told) for other in apart]))
                        self.assertTrue(lies_within(part, lacks(pattern, world, told)))

    def test_what_lacks_what_lacks_a_part_may_have_more(self):
        pattern = made(REST)
        self.assertEqual(lacks(pattern, RESTED, lacks(pattern, RESTED, ((2,),))), ((0, 2),))


class NothingHangsOnIt(unittest.TestCase):
    """[1] What is handed in is neither changed nor kept, and what is told is the asker's own."""

    def test_a_told_list_that_was_changed_is_told_again(self):
        for sample, world, wanted in ALL_PARTS:
            pattern = made(sample)
            told = all_parts(pattern, world)
            told.reverse()
            told.append("more")
            with self.subTest(sample=sample, world=world):
                again = all_parts(pattern, world)
                self.assertEqual(again, wanted)
                again.clear()
                self.assertEqual(all_parts(pattern, world), wanted)
                self.assertIsNot(all_parts(pattern, world), all_parts(pattern, world))

    def test_the_list_of_things_stays(self):
        handed = [(0, 1), (1, 0)]
        told = least_part(made(GRAPH), ARROWS, handed)
        self.assertEqual(handed, [(0, 1), (1, 0)])
        handed.clear()
        self.assertEqual(told, ((1,), (0, 1)))
        self.assertEqual(least_part(made(GRAPH), ARROWS, handed), ((), ()))
        self.assertEqual(least_part(made(GRAPH), ARROWS, [(0, 1), (1, 0)]), ((1,), (0, 1)))

    def test_asked_again_the_same_is_told(self):
        for sample, world, part, wanted in CHARACTERS:
            pattern = made(sample)
            calls = (
                lambda: truths(pattern), lambda: character(pattern, world, part), lambda: lacks(pattern, world, part),
                lambda: part_by(pattern, world, wanted), lambda: leads(pattern, world, staying(world), part),
                lambda: both(part, part), lambda: any_of(part, part),
            )
            ahead = [call() for call in calls]
            for kind in range(sample[0]):
                pattern.ways(kind).clear()
            with self.subTest(sample=sample, world=world, part=part):
                self.assertEqual([call() for call in reversed(calls)], ahead[::-1])
                self.assertEqual((pattern.kinds(), pattern.doings()), sample[:2])

    def test_what_was_refused_changes_nothing(self):
        pattern = made(CHAIN)
        for time in range(2):
            assert_refused(self, errors.TooMany, lambda: all_parts(pattern, JUST_501))
            self.assertEqual(all_parts(pattern, LINKED), slow_parts(CHAIN, LINKED))


if __name__ == "__main__":
    unittest.main()
