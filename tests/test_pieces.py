"""Promise 22 as far as pieces, and 1 for them."""

import itertools
import unittest

from mapwright.pieces import pieces
from mapwright.worlds import renumbered
from tests.samples import (
    ALL, ARROWS, CHAIN, FLIP, FLIPPED, GRAPH, HOOK, LINKED, LOOPED, LOOPS, PLAIN, PLAIN_THREE, PLAIN_TWO, REST, RESTED,
    RIGHT, TURN, TURNED, made, nothing_of,
)
from tests.slow import small_worlds

# Arrows 0 and 3 between points 0 and 2, arrow 1 at point 3, arrow 2 from point 4 to point 5; point 1 alone.
SPREAD = ((4, 6), ((2, 3, 4, 0), (0, 3, 5, 2)))

TOLD = (
    (PLAIN, ((1,), ()), [((0,),)]),
    (PLAIN, ((3,), ()), [((0,),), ((1,),), ((2,),)]),
    (PLAIN_TWO, ((0, 2), ()), [((), (0,)), ((), (1,))]),
    (PLAIN_TWO, ((1, 2), ()), [((0,), ()), ((), (0,)), ((), (1,))]),
    (PLAIN_THREE, ((1, 0, 1), ()), [((0,), (), ()), ((), (), (0,))]),
    (GRAPH, ARROWS, [((0, 1, 2), (0, 1))]),
    (GRAPH, ((0, 2), ((), ())), [((), (0,)), ((), (1,))]),
    (GRAPH, SPREAD, [((0, 3), (0, 2)), ((1,), (3,)), ((2,), (4, 5)), ((), (1,))]),
    (FLIP, FLIPPED, [((0, 1),), ((2,),)]),
    (FLIP, ((4,), ((3, 2, 1, 0),)), [((0, 3),), ((1, 2),)]),
    (REST, RESTED, [((0, 2),), ((1, 3),)]),
    (TURN, TURNED, [((0, 1, 2),), ((3,),)]),
    (LOOPS, LOOPED, [((0, 1, 2), (0, 1))]),
    (CHAIN, LINKED, [((0,), (1, 2), (0,)), ((1,), (0,), (1,))]),
)


class Pieces(unittest.TestCase):
    """[22] The pieces of a world, in the order of their first things."""

    def test_written_out(self):
        for sample, world, wanted in TOLD:
            with self.subTest(sample=sample, world=world):
                self.assertEqual(pieces(made(sample), world), wanted)

    def test_a_world_without_things_has_none(self):
        for sample in ALL:
            with self.subTest(sample=sample):
                self.assertEqual(pieces(made(sample), nothing_of(sample)), [])

    def test_things_led_to_one_thing_hang_together(self):
        self.assertEqual(pieces(made(REST), ((3,), ((2, 2, 2),))), [((0, 1, 2),)])
        self.assertEqual(pieces(made(GRAPH), ((2, 3), ((0, 2), (1, 1)))), [((0, 1), (0, 1, 2))])
        self.assertEqual(pieces(made(CHAIN), ((0, 3, 1), ((), (0, 0, 0), ()))), [((), (0, 1, 2), (0,))])

    def test_a_thing_led_to_two_things_binds_them(self):
        self.assertEqual(pieces(made(GRAPH), ((1, 2), ((1,), (0,)))), [((0,), (0, 1))])
        self.assertEqual(pieces(made(HOOK), ((1, 1, 2), ((0,), (0,), (0, 1), (0,), (1,)))), [((0,), (0,), (0, 1))])

    def test_a_long_row_of_things_hangs_together(self):
        # Arrow i from point i to point i + 1, and then with the greatest number in the middle.
        row = ((7, 8), (tuple(range(7)), tuple(range(1, 8))))
        self.assertEqual(pieces(made(GRAPH), row), [(tuple(range(7)), tuple(range(8)))])
        other = renumbered(made(GRAPH), row, ((3, 0, 6, 1, 5, 2, 4), (7, 0, 6, 1, 5, 2, 4, 3)))
        self.assertEqual(pieces(made(GRAPH), other), [(tuple(range(7)), tuple(range(8)))])

    def test_the_order_is_by_kinds_and_then_by_numbers(self):
        # The piece of the greatest arrow has the least point.
        self.assertEqual(
            pieces(made(GRAPH), ((2, 3), ((2, 0), (2, 0)))),
            [((0,), (2,)), ((1,), (0,)), ((), (1,))],
        )
        self.assertEqual(
            pieces(made(PLAIN_THREE), ((2, 1, 1), ())),
            [((0,), (), ()), ((1,), (), ()), ((), (0,), ()), ((), (), (0,))],
        )

    def test_more_than_eight_things(self):
        world = ((60,), (tuple([thing ^ 1 for thing in range(60)]),))
        self.assertEqual(pieces(made(FLIP), world), [((thing, thing + 1),) for thing in range(0, 60, 2)])

    def test_told_as_a_list_of_tuples_of_tuples(self):
        for sample, world in RIGHT:
            told = pieces(made(sample), world)
            with self.subTest(sample=sample):
                self.assertIs(type(told), list)
                self.assertEqual([type(piece) for piece in told], [tuple] * len(told))
                self.assertEqual([[type(row) for row in piece] for piece in told], [[tuple] * sample[0]] * len(told))

    def test_each_small_world(self):
        for sample in ALL:
            for world in small_worlds(sample):
                with self.subTest(sample=sample, world=world):
                    self.assert_right(sample, world, pieces(made(sample), world))

    def assert_right(self, sample, world, told):
        self.assertEqual(told, slow_pieces(sample, world))
        members = [spot for piece in told for spot in spots_of(piece)]
        self.assertEqual(sorted(members), all_spots(world))
        firsts = [spots_of(piece)[0] for piece in told]
        self.assertEqual(firsts, sorted(firsts))
        for piece in told:
            self.assertEqual(piece, tuple([tuple(sorted(row)) for row in piece]))


class NothingHangsOnIt(unittest.TestCase):
    """[1] What is told is the asker's own."""

    def test_a_told_list_that_was_emptied_is_told_again(self):
        for sample, world, wanted in TOLD:
            pattern = made(sample)
            with self.subTest(sample=sample, world=world):
                told = pieces(pattern, world)
                told.clear()
                again = pieces(pattern, world)
                self.assertEqual(again, wanted)
                again[0] = ((9,),)
                again.append(())
                self.assertEqual(pieces(pattern, world), wanted)
                self.assertEqual((pattern.kinds(), pattern.doings()), sample[:2])

    def test_no_two_lists_are_one(self):
        pattern = made(GRAPH)
        empty = pieces(pattern, nothing_of(GRAPH))
        empty.append("more")
        self.assertEqual(pieces(pattern, nothing_of(GRAPH)), [])
        self.assertIsNot(pieces(pattern, ARROWS), pieces(pattern, ARROWS))


def all_spots(world):
    return [(kind, thing) for kind, size in enumerate(world[0]) for thing in range(size)]


def spots_of(piece):
    return [(kind, thing) for kind, row in enumerate(piece) for thing in row]


def slow_pieces(sample, world):
    """Each thing gets a number, and things between which a doing leads the lesser one, as long as this changes any."""
    number = {spot: place for place, spot in enumerate(all_spots(world))}
    for time, (doing, (start, goal)) in itertools.product(number, enumerate(sample[1])):
        for thing, there in enumerate(world[1][doing]):
            least = min(number[(start, thing)], number[(goal, there)])
            number[(start, thing)] = least
            number[(goal, there)] = least
    told = []
    for least in sorted(set(number.values())):
        told.append(tuple([
            tuple([thing for thing in range(size) if number[(kind, thing)] == least])
            for kind, size in enumerate(world[0])
        ]))
    return told


if __name__ == "__main__":
    unittest.main()
