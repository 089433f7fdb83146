"""Promises 22 (parts) and 43 to 45, and 1 for parts and what is drawn together."""

import itertools
import unittest

from mapwright import errors
from mapwright.allmaps import maps
from mapwright.maps import is_apart, is_map, is_onto, staying, then, turned_back
from mapwright.parts import drawn, equal_part, image, is_part, part_world, through
from mapwright.pieces import pieces
from mapwright.worlds import is_world
from tests.kinds import assert_tuples
from tests.refusals import assert_refused
from tests.samples import (
    ALL, ARROWS, CHAIN, FLIP, FLIPPED, GRAPH, HOOK, HOOKED, LINKED, LOOPED, LOOPS, PLAIN, PLAIN_THREE, PLAIN_TWO, REST,
    RESTED, RIGHT, TURN, TURNED, empty_part, made, nothing_of,
)
from tests.slow import slow_parts, small_worlds, some_pairs

ARROW = ((1, 2), ((0,), (1,)))
LOOP = ((1, 1), ((0,), (0,)))
# An arrow from each of points 0, 1, 2 to the next one.
ROW = ((3, 4), ((0, 1, 2), (1, 2, 3)))

# Parts, each as a world; the part itself is the map in.
PARTS = (
    (PLAIN, ((5,), ()), ((1, 4),), ((2,), ())),
    (PLAIN_TWO, ((0, 3), ()), ((), (0, 2)), ((0, 2), ())),
    (PLAIN_THREE, ((1, 0, 2), ()), ((0,), (), (1,)), ((1, 0, 1), ())),
    (GRAPH, ARROWS, ((1,), (1,)), ((1, 1), ((0,), (0,)))),
    (GRAPH, ARROWS, ((), (1,)), ((0, 1), ((), ()))),
    (GRAPH, ARROWS, ((0, 2), (0, 1)), ((2, 2), ((0, 1), (1, 0)))),
    (GRAPH, ROW, ((1, 2), (1, 2, 3)), ((2, 3), ((0, 1), (1, 2)))),
    (GRAPH, ROW, ((2,), (0, 2, 3)), ((1, 3), ((1,), (2,)))),
    (FLIP, FLIPPED, ((2,),), ((1,), ((0,),))),
    (FLIP, ((4,), ((0, 3, 2, 1),)), ((1, 3),), ((2,), ((1, 0),))),
    (REST, RESTED, ((1, 2, 3),), ((3,), ((0, 1, 0),))),
    (REST, RESTED, ((0, 2),), ((2,), ((1, 1),))),
    (TURN, TURNED, ((0, 1, 2),), ((3,), ((1, 2, 0), (2, 0, 1)))),
    (CHAIN, LINKED, ((1,), (0, 1), (0, 1)), ((1, 2, 2), ((0,), (1, 0), (1,)))),
    (CHAIN, LINKED, ((), (1, 2), (0,)), ((0, 2, 1), ((), (0, 0), ()))),
    (LOOPS, LOOPED, ((2,), (1,)), ((1, 1), ((0,), (0,), (0,), (0,), (0,)))),
    (HOOK, HOOKED, ((), (0,), (1,)), ((0, 1, 1), ((), (0,), (0,), (), ()))),
)

# Rows from which a doing leads out.
LEADING_OUT = (
    (GRAPH, ARROWS, ((0,), ())),
    (GRAPH, ARROWS, ((0,), (0,))),
    (GRAPH, ARROWS, ((0,), (1,))),
    (GRAPH, ARROWS, ((0, 1, 2), (1,))),
    (FLIP, FLIPPED, ((0,),)),
    (FLIP, FLIPPED, ((1, 2),)),
    (REST, RESTED, ((0,),)),
    (REST, RESTED, ((0, 1, 3),)),
    (TURN, TURNED, ((0, 1),)),
    (TURN, TURNED, ((2, 3),)),
    (CHAIN, LINKED, ((0,), (), (0,))),
    (CHAIN, LINKED, ((0,), (2,), ())),
    (CHAIN, LINKED, ((1,), (0,), (0,))),
    (LOOPS, LOOPED, ((0,), ())),
    (LOOPS, LOOPED, ((), (0,))),
    (HOOK, HOOKED, ((), (), (0,))),
)

DRAWN = (
    (PLAIN, ((4,), ()), [(0, 3, 1)], (((3,), ()), ((0, 1, 2, 1),))),
    (PLAIN, ((4,), ()), [(0, 1, 3), (0, 0, 3)], (((2,), ()), ((0, 0, 1, 0),))),
    (PLAIN, ((5,), ()), [(0, 4, 3), (0, 2, 1), (0, 1, 4)], (((2,), ()), ((0, 1, 1, 1, 1),))),
    (PLAIN, ((5,), ()), [(0, 4, 2), (0, 3, 1)], (((3,), ()), ((0, 1, 2, 1, 2),))),
    (PLAIN, ((9,), ()), [(0, 8, 1)], (((8,), ()), ((0, 1, 2, 3, 4, 5, 6, 7, 1),))),
    (PLAIN_TWO, ((2, 3), ()), [(1, 0, 2)], (((2, 2), ()), ((0, 1), (0, 1, 0)))),
    (GRAPH, ARROW, [(1, 1, 0)], (LOOP, ((0,), (0, 0)))),
    # Arrows 0 and 1 are one, so points 0 and 1 are, and points 1 and 2.
    (GRAPH, ROW, [(0, 0, 1)], (((2, 2), ((0, 0), (0, 1))), ((0, 0, 1), (0, 0, 0, 1)))),
    (GRAPH, ROW, [(1, 0, 3)], (((3, 3), ((0, 1, 2), (1, 2, 0))), ((0, 1, 2), (0, 1, 2, 0)))),
    (GRAPH, ROW, [(0, 0, 2)], (((2, 2), ((0, 1), (1, 0))), ((0, 1, 0), (0, 1, 0, 1)))),
    (FLIP, FLIPPED, [(0, 0, 1)], (((2,), ((0, 1),)), ((0, 0, 1),))),
    (FLIP, FLIPPED, [(0, 2, 0)], (((1,), ((0,),)), ((0, 0, 0),))),
    (FLIP, ((4,), ((1, 0, 3, 2),)), [(0, 1, 2)], (((2,), ((1, 0),)), ((0, 1, 1, 0),))),
    (REST, RESTED, [(0, 0, 3)], (((2,), ((1, 1),)), ((0, 1, 1, 0),))),
    (REST, RESTED, [(0, 2, 1)], (((3,), ((1, 1, 1),)), ((0, 1, 1, 2),))),
    (TURN, TURNED, [(0, 1, 2)], (((2,), ((0, 1), (0, 1))), ((0, 0, 0, 1),))),
    (CHAIN, LINKED, [(0, 0, 1)], (((1, 2, 1), ((0,), (0, 0), (0,))), ((0, 0), (0, 1, 0), (0, 0)))),
    (CHAIN, LINKED, [(1, 1, 0)], (((2, 2, 1), ((1, 0), (0, 0), (0, 0))), ((0, 1), (0, 0, 1), (0, 0)))),
    (CHAIN, LINKED, [(2, 1, 0)], (((2, 3, 1), ((2, 0), (0, 0, 0), (0, 0))), ((0, 1), (0, 1, 2), (0, 0)))),
)

# An onto map, a further map of the same world, and the map between.
BETWEEN = (
    (((0, 1, 0),), ((3, 2, 3),), ((3, 2),)),
    (((1, 0, 1, 2),), ((5, 5, 5, 0),), ((5, 5, 0),)),
    (((0, 0), (1, 0)), ((4, 4), (2, 6)), ((4,), (6, 2))),
    (((), (0,)), ((), (7,)), ((), (7,))),
    (((0,), (), (0, 0)), ((1,), (), (2, 2)), ((1,), (), (2,))),
    (((),), ((),), ((),)),
    (((2, 0, 1),), ((2, 0, 1),), ((0, 1, 2),)),
)

NOT_BETWEEN = (
    (((0, 0),), ((0, 1),)),
    (((0, 1, 0),), ((3, 2, 2),)),
    (((1, 0, 1, 2),), ((5, 5, 6, 0),)),
    (((0, 1), (0, 0)), ((0, 0), (1, 0))),
    (((0, 0), (0, 1)), ((1, 0), (1, 1))),
    (((), (0, 0), ()), ((), (2, 1), ())),
)


def slow_ones(sample, world, pairs):
    """All (kind, thing, thing) that are one, by drawing conclusions as long as there is a new one."""
    ones = {(kind, thing, thing) for kind, size in enumerate(world[0]) for thing in range(size)}
    fresh = {tuple(pair) for pair in pairs} - ones
    while fresh:
        ones |= fresh
        more = {(kind, b, a) for kind, a, b in ones}
        more |= {(kind, a, d) for kind, a, b in ones for other, c, d in ones if kind == other and b == c}
        for doing, (start, goal) in enumerate(sample[1]):
            act = world[1][doing]
            more |= {(goal, act[a], act[b]) for kind, a, b in ones if kind == start}
        fresh = more - ones
    return ones


def slow_onto(sample, world, pairs):
    """The map by which things go to the number of the least ones with which they are one, in their order."""
    ones = slow_ones(sample, world, pairs)
    rows = []
    for kind, size in enumerate(world[0]):
        leasts = [min([b for other, a, b in ones if (other, a) == (kind, thing)]) for thing in range(size)]
        order = sorted(set(leasts))
        rows.append(tuple([order.index(least) for least in leasts]))
    return tuple(rows)


def all_pairs(world):
    """All (kind, thing, thing) of a world."""
    told = []
    for kind, size in enumerate(world[0]):
        told.extend([(kind, one, other) for one, other in itertools.product(range(size), repeat=2)])
    return told


def some_lists(world):
    """Lists of none, of one, and some of two (kind, thing, thing)."""
    pairs = all_pairs(world)
    doubles = [list(pair) for pair in itertools.product(pairs, repeat=2)]
    return [[]] + [[pair] for pair in pairs] + doubles[::max(1, len(doubles) // 15)]


class IsPart(unittest.TestCase):
    """[43], [22] Whether a tuple of tuples of whole numbers is a part of a world."""

    def assert_told(self, sample, world, part, wanted):
        with self.subTest(sample=sample, world=world, part=part):
            self.assertIs(is_part(made(sample), world, part), wanted)

    def test_right_parts(self):
        for sample, world, part, alone in PARTS:
            self.assert_told(sample, world, part, True)

    def test_the_empty_one_and_the_whole(self):
        for sample, world in RIGHT:
            self.assert_told(sample, world, empty_part(sample), True)
            self.assert_told(sample, world, staying(world), True)
            self.assert_told(sample, nothing_of(sample), empty_part(sample), True)

    def test_pieces_are_parts(self):
        for sample, world in RIGHT:
            for piece in pieces(made(sample), world):
                self.assert_told(sample, world, piece, True)

    def test_a_row_more_or_less(self):
        for sample, world, part, alone in PARTS:
            self.assert_told(sample, world, part + ((),), False)
            self.assert_told(sample, world, part + ((0,),), False)
            self.assert_told(sample, world, ((),) + part, False)
            self.assert_told(sample, world, part[:-1], False)
            self.assert_told(sample, world, (), False)
        for sample in ALL:
            self.assert_told(sample, nothing_of(sample), empty_part(sample) + ((),), False)
            self.assert_told(sample, nothing_of(sample), empty_part(sample)[1:], False)

    def test_a_number_twice(self):
        for sample, world, part, alone in PARTS:
            for kind, row in enumerate(part):
                for place in range(len(row)):
                    changed = row[:place] + (row[place],) + row[place:]
                    self.assert_told(sample, world, part[:kind] + (changed,) + part[kind + 1:], False)
                if row:
                    self.assert_told(sample, world, part[:kind] + (row + row,) + part[kind + 1:], False)

    def test_falling_numbers(self):
        for sample, world in RIGHT:
            whole = staying(world)
            for kind, row in enumerate(whole):
                if len(row) > 1:
                    self.assert_told(sample, world, whole[:kind] + (row[::-1],) + whole[kind + 1:], False)
                    swapped = row[:-2] + (row[-1], row[-2])
                    self.assert_told(sample, world, whole[:kind] + (swapped,) + whole[kind + 1:], False)

    def test_a_number_beyond_or_below_nought(self):
        for sample, world, part, alone in PARTS:
            for kind, row in enumerate(part):
                size = world[0][kind]
                wrong = [row + (number,) for number in (size, size + 1, 10 ** 20)]
                wrong.extend([(number,) + row for number in (-1, -size, -(10 ** 20))])
                for changed in wrong:
                    self.assert_told(sample, world, part[:kind] + (changed,) + part[kind + 1:], False)

    def test_a_thing_told_by_a_number_below_nought(self):
        # The last thing, told from behind, and all that is led there.
        self.assert_told(FLIP, FLIPPED, ((-1,),), False)
        self.assert_told(PLAIN, ((3,), ()), ((-1, 0),), False)
        self.assert_told(GRAPH, ARROWS, ((-2,), (-1,)), False)

    def test_more_than_eight_things(self):
        # Numbers that a set has in another order than the rising one.
        self.assert_told(PLAIN, ((9,), ()), ((1, 8),), True)
        self.assert_told(PLAIN, ((9,), ()), ((8, 1),), False)
        self.assert_told(PLAIN, ((70,), ()), ((2, 8, 33, 64),), True)
        self.assert_told(PLAIN, ((70,), ()), ((64, 8, 33, 2),), False)

    def test_where_a_doing_leads_out(self):
        for sample, world, part in LEADING_OUT:
            self.assert_told(sample, world, part, False)

    def test_all_small_tuples_against_a_slow_search(self):
        for sample in ALL:
            worlds = small_worlds(sample)
            for world in worlds[::max(1, len(worlds) // 25)]:
                right = slow_parts(sample, world)
                rows = [
                    [row for many in range(3) for row in itertools.product(range(-1, size + 1), repeat=many)]
                    for size in world[0]
                ]
                tried = list(itertools.product(*rows))
                for part in tried[::max(1, len(tried) // 300)] + right:
                    if is_part(made(sample), world, part) is not (part in right):
                        self.fail((sample, world, part))


class PartWorld(unittest.TestCase):
    """[43] A part told as a world, with the map in."""

    def test_written_out(self):
        for sample, world, part, alone in PARTS:
            with self.subTest(sample=sample, world=world, part=part):
                self.assertEqual(part_world(made(sample), world, part), (alone, part))

    def test_the_empty_one_and_the_whole(self):
        for sample, world in RIGHT:
            pattern = made(sample)
            empty = empty_part(sample)
            with self.subTest(sample=sample):
                self.assertEqual(part_world(pattern, world, empty), (nothing_of(sample), empty))
                self.assertEqual(part_world(pattern, world, staying(world)), (world, staying(world)))

    def test_each_part(self):
        for sample in ALL:
            worlds = small_worlds(sample)
            for world in worlds[::max(1, len(worlds) // 25)] + [world for other, world in RIGHT if other == sample]:
                for part in slow_parts(sample, world):
                    with self.subTest(sample=sample, world=world, part=part):
                        self.assert_right(made(sample), world, part)

    def assert_right(self, pattern, world, part):
        told = part_world(pattern, world, part)
        assert_tuples(self, told)
        self.assertEqual(len(told), 2)
        self.assertTrue(is_world(pattern, told[0]))
        self.assertTrue(is_map(pattern, told[0], world, told[1]))
        self.assertTrue(is_apart(told[1]))
        self.assertEqual(image(told[1]), part)
        self.assertEqual(told[1], tuple([tuple(sorted(row)) for row in part]))


class EqualPart(unittest.TestCase):
    """[43] The part at which two maps agree."""

    def test_everywhere(self):
        for sample, world in RIGHT:
            with self.subTest(sample=sample):
                self.assertEqual(equal_part(staying(world), staying(world)), staying(world))

    def test_somewhere(self):
        self.assertEqual(equal_part(((0, 1, 2),), ((1, 1, 2),)), ((1, 2),))
        self.assertEqual(equal_part(((0, 1, 2),), ((0, 0, 0),)), ((0,),))
        self.assertEqual(equal_part(((0, 1), (3, 3)), ((0, 2), (2, 3))), ((0,), (1,)))
        self.assertEqual(equal_part(((), (3, 3)), ((), (2, 3))), ((), (1,)))
        # The maps that stay and that lead all to the arrow at point 1.
        self.assertEqual(equal_part(((0, 1, 2), (0, 1)), ((1, 1, 1), (1, 1))), ((1,), (1,)))
        self.assertEqual(equal_part(((0, 1, 2),), ((1, 0, 2),)), ((2,),))

    def test_nowhere(self):
        self.assertEqual(equal_part(((0, 1),), ((1, 0),)), ((),))
        self.assertEqual(equal_part(((0,), (0, 1)), ((2,), (1, 0))), ((), ()))
        self.assertEqual(equal_part(((), ()), ((), ())), ((), ()))

    def test_of_small_worlds(self):
        for sample in ALL:
            pattern = made(sample)
            for one, other in some_pairs(sample, limit=40):
                chosen = list(itertools.product(maps(pattern, one, other), repeat=2))
                for some, more in chosen[::max(1, len(chosen) // 10)]:
                    told = equal_part(some, more)
                    with self.subTest(sample=sample, one=one, other=other, some=some, more=more):
                        assert_tuples(self, told)
                        self.assertTrue(is_part(pattern, one, told))
                        for row, here, there in zip(told, some, more):
                            agree = [thing for thing in range(len(here)) if here[thing] == there[thing]]
                            self.assertEqual(row, tuple(agree))


class Image(unittest.TestCase):
    """[43] The part of all things to which a map leads some."""

    def test_written_out(self):
        self.assertEqual(image(((2, 0, 2),)), ((0, 2),))
        self.assertEqual(image(((5, 4, 3), (), (1, 1))), ((3, 4, 5), (), (1,)))
        self.assertEqual(image(((), ())), ((), ()))
        self.assertEqual(image(((8, 1, 8), (64, 33, 2, 8))), ((1, 8), (2, 8, 33, 64)))
        self.assertEqual(image(((2,), (1, 0))), ((2,), (0, 1)))
        self.assertEqual(image(((1, 1, 1), (1, 1))), ((1,), (1,)))

    def test_of_small_worlds(self):
        for sample in ALL:
            pattern = made(sample)
            for one, other in some_pairs(sample, limit=60):
                chosen = maps(pattern, one, other)
                for some in chosen[::max(1, len(chosen) // 10)]:
                    told = image(some)
                    with self.subTest(sample=sample, one=one, other=other, some=some):
                        assert_tuples(self, told)
                        self.assertTrue(is_part(pattern, other, told))
                        self.assertEqual(told == staying(other), is_onto(other, some))
                        for row, goals, size in zip(told, some, other[0]):
                            self.assertEqual(row, tuple([thing for thing in range(size) if thing in goals]))


class Drawn(unittest.TestCase):
    """[44] Things drawn together."""

    def test_written_out(self):
        for sample, world, pairs, wanted in DRAWN:
            with self.subTest(sample=sample, world=world, pairs=pairs):
                self.assertEqual(drawn(made(sample), world, pairs), wanted)

    def test_by_no_pairs(self):
        for sample, world in RIGHT:
            with self.subTest(sample=sample):
                self.assertEqual(drawn(made(sample), world, []), (world, staying(world)))
                empty = nothing_of(sample)
                self.assertEqual(drawn(made(sample), empty, []), (empty, empty_part(sample)))

    def test_by_things_with_themselves(self):
        for sample, world in RIGHT:
            pairs = [pair for pair in all_pairs(world) if pair[1] == pair[2]]
            with self.subTest(sample=sample):
                self.assertEqual(drawn(made(sample), world, pairs), (world, staying(world)))

    def test_told_twice_or_the_other_way_about(self):
        for sample, world, pairs, wanted in DRAWN:
            back = [(kind, other, one) for kind, one, other in pairs]
            for same in (pairs + pairs, pairs + back, back, pairs[::-1], back[::-1]):
                with self.subTest(sample=sample, world=world, pairs=same):
                    self.assertEqual(drawn(made(sample), world, same), wanted)

    def test_all_of_a_kind_are_one(self):
        for sample, world in RIGHT:
            sizes = tuple([min(size, 1) for size in world[0]])
            zeros = tuple([(0,) * size for size in world[0]])
            acts = tuple([(0,) * sizes[start] for start, goal in sample[1]])
            with self.subTest(sample=sample):
                self.assertEqual(drawn(made(sample), world, all_pairs(world)), ((sizes, acts), zeros))

    def test_drawn_through_doings_again_and_again(self):
        # Arrow 0 is point 0's own, so that points 0 and 1 are one, and so their own arrows.
        told = drawn(made(LOOPS), LOOPED, [(0, 0, 1)])
        self.assertEqual(told, (((1, 1), ((0,), (0,), (0,), (0,), (0,))), ((0, 0, 0), (0, 0))))
        told = drawn(made(TURN), ((6,), ((1, 2, 0, 4, 5, 3), (2, 0, 1, 5, 3, 4))), [(0, 0, 4)])
        self.assertEqual(told, (((3,), ((1, 2, 0), (2, 0, 1))), ((0, 1, 2, 2, 0, 1),)))
        told = drawn(made(TURN), ((6,), ((1, 2, 0, 4, 5, 3), (2, 0, 1, 5, 3, 4))), [(0, 0, 4), (0, 3, 5)])
        self.assertEqual(told, (((1,), ((0,), (0,))), ((0, 0, 0, 0, 0, 0),)))

    def test_things_that_hang_together_over_a_third_one(self):
        # No pair tells of arrows 0 and 2, but both are one with arrow 1.
        told = drawn(made(GRAPH), ROW, [(0, 0, 1), (0, 2, 1)])
        self.assertEqual(told, (LOOP, ((0, 0, 0), (0, 0, 0, 0))))
        # Things 0, 4 and 2, 5 and then 5, 4: so what 0 and 2 lead to is one, too.
        world = ((8,), ((6, 6, 7, 7, 6, 7, 6, 7),))
        told = drawn(made(REST), world, [(0, 0, 4), (0, 2, 5), (0, 5, 4)])
        self.assertEqual(told, (((4,), ((3, 3, 3, 3),)), ((0, 1, 0, 2, 0, 0, 3, 3),)))

    def test_small_worlds_against_a_slow_search(self):
        for sample in ALL:
            worlds = small_worlds(sample)
            for world in worlds[::max(1, len(worlds) // 12)] + [world for other, world in RIGHT if other == sample]:
                for pairs in some_lists(world):
                    with self.subTest(sample=sample, world=world, pairs=pairs):
                        self.assert_right(sample, world, pairs)

    def assert_right(self, sample, world, pairs):
        pattern = made(sample)
        told = drawn(pattern, world, pairs)
        assert_tuples(self, told)
        self.assertEqual(len(told), 2)
        self.assertEqual(told[1], slow_onto(sample, world, pairs))
        self.assertTrue(is_world(pattern, told[0]))
        self.assertTrue(is_map(pattern, world, told[0], told[1]))
        self.assertTrue(is_onto(told[0], told[1]))

    def test_the_order_is_by_the_least_things(self):
        for sample, world in RIGHT:
            for pairs in some_lists(world):
                told = drawn(made(sample), world, pairs)
                for row in told[1]:
                    firsts = [row.index(number) for number in range(len(set(row)))]
                    self.assertEqual(firsts, sorted(firsts))

    def test_a_further_drawing_is_as_one_of_both_lists(self):
        for sample, world in RIGHT:
            pattern = made(sample)
            lists = some_lists(world)
            for pairs, more in zip(lists, lists[1:] + lists[:1]):
                first = drawn(pattern, world, pairs)
                rows = first[1]
                moved = [(kind, rows[kind][one], rows[kind][other]) for kind, one, other in more]
                second = drawn(pattern, first[0], moved)
                whole = drawn(pattern, world, pairs + more)
                with self.subTest(sample=sample, pairs=pairs, more=more):
                    self.assertEqual((second[0], then(first[1], second[1])), whole)

    def test_sixty_things(self):
        world = ((60,), (tuple([thing ^ 1 for thing in range(60)]),))
        pairs = [(0, thing, thing + 2) for thing in range(58)]
        self.assertEqual(drawn(made(FLIP), world, pairs), (((2,), ((1, 0),)), ((0, 1) * 30,)))


class Through(unittest.TestCase):
    """[45] The one map between an onto map and a further one."""

    def test_written_out(self):
        for some, more, wanted in BETWEEN:
            with self.subTest(some=some, more=more):
                told = through(some, more)
                self.assertEqual(told, wanted)
                self.assertEqual(then(some, told), more)
                assert_tuples(self, told)

    def test_refused_where_things_that_are_one_are_led_apart(self):
        for some, more in NOT_BETWEEN:
            with self.subTest(some=some, more=more):
                assert_refused(self, errors.NoMap, lambda: through(some, more))

    def test_of_things_drawn_together(self):
        for sample, world in RIGHT[1:] + ((PLAIN, ((4,), ())),):
            pattern = made(sample)
            for pairs in some_lists(world):
                told = drawn(pattern, world, pairs)
                for more in maps(pattern, world, world)[:20]:
                    with self.subTest(sample=sample, pairs=pairs, more=more):
                        self.assert_between(pattern, world, told, pairs, more)

    def assert_between(self, pattern, world, told, pairs, more):
        if all([more[kind][one] == more[kind][other] for kind, one, other in pairs]):
            between = through(told[1], more)
            self.assertTrue(is_map(pattern, told[0], world, between))
            self.assertEqual(then(told[1], between), more)
            self.assertEqual([some for some in maps(pattern, told[0], world) if then(told[1], some) == more], [between])
        else:
            assert_refused(self, errors.NoMap, lambda: through(told[1], more))

    def test_of_all_onto_maps_of_small_worlds(self):
        for sample in ALL:
            pattern = made(sample)
            for one, other in some_pairs(sample, limit=30):
                onto = [some for some in maps(pattern, one, other) if is_onto(other, some)]
                for some, more in list(itertools.product(onto, maps(pattern, one, one)))[:20]:
                    found = [between for between in maps(pattern, other, one) if then(some, between) == more]
                    with self.subTest(sample=sample, one=one, other=other, some=some, more=more):
                        if found:
                            self.assertEqual([through(some, more)], found)
                        else:
                            assert_refused(self, errors.NoMap, lambda: through(some, more))

    def test_staying_is_onto(self):
        for sample, world in RIGHT:
            self.assertEqual(through(staying(world), staying(world)), staying(world))

    def test_a_map_that_turns_about_leads_back(self):
        self.assertEqual(through(((1, 2, 0),), ((0, 1, 2),)), turned_back(((3,), ()), ((1, 2, 0),)))


class NothingHangsOnIt(unittest.TestCase):
    """[1] What is handed in is neither changed nor kept, and asked again the same is told."""

    def test_the_list_of_pairs_stays(self):
        for sample, world, pairs, wanted in DRAWN:
            handed = list(pairs)
            drawn(made(sample), world, handed)
            self.assertEqual(handed, pairs)

    def test_pairs_changed_later_change_nothing(self):
        for sample, world, pairs, wanted in DRAWN:
            pattern = made(sample)
            handed = list(pairs)
            told = drawn(pattern, world, handed)
            handed.clear()
            with self.subTest(sample=sample, world=world, pairs=pairs):
                self.assertEqual(told, wanted)
                self.assertEqual(drawn(pattern, world, handed), (world, staying(world)))
                self.assertEqual(drawn(pattern, world, pairs), wanted)

    def test_asked_again_the_same_is_told(self):
        for sample, world, part, alone in PARTS:
            pattern = made(sample)
            for time in range(2):
                self.assertIs(is_part(pattern, world, part), True)
                self.assertEqual(part_world(pattern, world, part), (alone, part))
                for kind in range(sample[0]):
                    pattern.ways(kind).clear()
            self.assertEqual((pattern.kinds(), pattern.doings()), sample[:2])

    def test_what_was_refused_changes_nothing(self):
        for time in range(2):
            assert_refused(self, errors.NoMap, lambda: through(((0, 0),), ((0, 1),)))
            self.assertEqual(through(((0, 0),), ((1, 1),)), ((1,),))


if __name__ == "__main__":
    unittest.main()
