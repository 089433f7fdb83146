"""Promises 50 to 52, and 1 for the world of all maps."""

import itertools
import unittest

from mapwright import errors
from mapwright.allmaps import many_maps, maps
from mapwright.joins import nothing, one_thing, product
from mapwright.maps import is_apart, is_map, staying
from mapwright.patterns import Pattern
from mapwright.powers import asked, brought, carried, power
from mapwright.seeds import seed
from mapwright.worlds import is_world, led
from tests.kinds import assert_tuples
from tests.refusals import assert_refused
from tests.samples import (
    ALL, ARROWS, CHAIN, FIRST, FLIP, FLIPPED, GRAPH, LAST, LINKED, LOOPED, LOOPS, PLAIN, PLAIN_THREE, PLAIN_TWO,
    REST, RESTED, RIGHT, TURN, TURN_SIX, TURNED, made, nothing_of, singles_of,
)
from tests.slow import slow_maps, small_worlds, some_pairs

POINT = ((0, 1), ((), ()))
ARROW = ((1, 2), ((0,), (1,)))
LOOP = ((1, 1), ((0,), (0,)))
ONE = ((1,), ((0,),))
SWAP = ((2,), ((1, 0),))

# The worlds of all maps of the one into the other, and their maps, kind by kind.
POWERS = (
    (PLAIN, ((2,), ()), ((2,), ()), ((4,), ()), ((((0, 0),), ((0, 1),), ((1, 0),), ((1, 1),)),)),
    (PLAIN, ((1,), ()), ((3,), ()), ((3,), ()), ((((0,),), ((1,),), ((2,),)),)),
    (PLAIN, ((0,), ()), ((3,), ()), ((1,), ()), ((((),),),)),
    (PLAIN, ((2,), ()), ((0,), ()), ((0,), ()), ((),)),
    (PLAIN, ((0,), ()), ((0,), ()), ((1,), ()), ((((),),),)),
    (PLAIN_TWO, ((1, 0), ()), ((0, 0), ()), ((0, 1), ()), ((), (((), ()),))),
    (PLAIN_TWO, ((1, 2), ()), ((2, 1), ()), ((2, 1), ()), ((((0,), ()), ((1,), ())), (((), (0, 0)),))),
    # A map of arrow and point is a first point and a last one.
    (GRAPH, POINT, ARROW, ((4, 2), ((0, 0, 1, 1), (0, 1, 0, 1))), (
        (((), (0, 0)), ((), (0, 1)), ((), (1, 0)), ((), (1, 1))),
        (((), (0,)), ((), (1,))),
    )),
    (GRAPH, ARROW, LOOP, ((1, 1), ((0,), (0,))), ((((0,), (0, 0, 0, 0)),), (((), (0, 0)),))),
    # The pairs of points are (0, 0), (0, 1), (1, 0), (1, 1); the arrow is from the first to the last of these.
    (GRAPH, ARROW, ARROW, ((4, 4), ((0, 0, 1, 1), (1, 3, 1, 3))), (
        (((0,), (0, 0, 0, 1)), ((0,), (0, 0, 1, 1)), ((0,), (0, 1, 0, 1)), ((0,), (0, 1, 1, 1))),
        (((), (0, 0)), ((), (0, 1)), ((), (1, 0)), ((), (1, 1))),
    )),
    (FLIP, ONE, FLIPPED, ((3,), ((1, 0, 2),)), ((((0, 1),), ((1, 0),), ((2, 2),)),)),
    # The pairs are (staying, 0), (staying, 1), (doing, 0), (doing, 1), and the doing leads 0 to 3, 1 to 2.
    (FLIP, SWAP, SWAP, ((4,), ((3, 1, 2, 0),)), (
        (((0, 0, 1, 1),), ((0, 1, 0, 1),), ((1, 0, 1, 0),), ((1, 1, 0, 0),)),
    )),
    (REST, ONE, RESTED, ((4,), ((2, 1, 2, 1),)), ((((0, 2),), ((1, 1),), ((2, 2),), ((3, 1),)),)),
    # What is done first counts: a thing and the things to which doings 0 and 1 lead it.
    (FIRST, ((1,), ((0,), (0,))), ((3,), ((0, 1, 0), (0, 1, 1))), ((3,), ((0, 1, 0), (0, 1, 1))), (
        (((0, 0, 0),), ((1, 1, 1),), ((2, 0, 1),)),
    )),
)

# Worlds of which there are more maps than are told, of one kind or of all.
REFUSED = (
    (PLAIN, ((1,), ()), ((61,), ())),
    (PLAIN, ((6,), ()), ((2,), ())),
    (PLAIN, ((3,), ()), ((4,), ())),
    (PLAIN, ((8,), ()), ((8,), ())),
    (PLAIN_TWO, ((3, 1), ()), ((4, 8), ())),
    (PLAIN_TWO, ((1, 3), ()), ((8, 4), ())),
    (PLAIN_TWO, ((1, 1), ()), ((60, 61), ())),
    (PLAIN_TWO, ((1, 1), ()), ((61, 60), ())),
    (PLAIN_THREE, ((0, 8, 0), ()), ((0, 2, 0), ())),
    (PLAIN_THREE, ((8, 8, 8), ()), ((8, 8, 8), ())),
    (GRAPH, ((0, 8), ((), ())), ((8, 8), ((0,) * 8, (1,) * 8))),
    (GRAPH, POINT, ((0, 8), ((), ()))),
    (GRAPH, ARROW, ((8, 8), (tuple(range(8)), (1, 2, 3, 4, 5, 6, 7, 0)))),
    (FLIP, ((8,), ((1, 0, 3, 2, 5, 4, 7, 6),)), ((8,), ((1, 0, 3, 2, 5, 4, 7, 6),))),
    (REST, ((8,), ((0, 0, 0, 0, 4, 4, 4, 4),)), ((8,), ((0, 0, 0, 0, 4, 4, 4, 4),))),
    (TURN_SIX, ((8,), (tuple(range(8)),) * 5), ((8,), (tuple(range(8)),) * 5)),
    # Two points with their own arrows, and so a map for each two of eight such points.
    (LOOPS, ((2, 2), ((0, 1),) * 5), ((8, 8), (tuple(range(8)),) * 5)),
)


def pair_rows(sample, kind, one):
    """For each kind the pairs (way, thing) of a kind's seed and the one, in the order of their numbers."""
    pattern = made(sample)
    rows = []
    for goal in range(sample[0]):
        ways = [way for way in pattern.ways(kind) if pattern.end(kind, way) == goal]
        rows.append(list(itertools.product(ways, range(one[0][goal]))))
    return rows


def slow_power(sample, one, other):
    """The world of all maps and its maps, as the document tells them, with maps by a slow search."""
    pattern = made(sample)
    told = []
    for kind in range(sample[0]):
        told.append(tuple(slow_maps(sample, product(pattern, seed(pattern, kind), one)[0], other)))
    acts = []
    for doing, (start, goal) in enumerate(sample[1]):
        here = pair_rows(sample, start, one)
        act = []
        for some in told[start]:
            rows = []
            for kind, pairs in enumerate(pair_rows(sample, goal, one)):
                places = [here[kind].index((pattern.behind(doing, way), thing)) for way, thing in pairs]
                rows.append(tuple([some[kind][place] for place in places]))
            act.append(told[goal].index(tuple(rows)))
        acts.append(tuple(act))
    return ((tuple([len(row) for row in told]), tuple(acts)), tuple(told))


def slow_carried(sample, more, one, kept, some):
    """For each thing of the further world the number of the map to which it is led."""
    pattern = made(sample)
    rows = []
    for kind, size in enumerate(more[0]):
        row = []
        for thing in range(size):
            found = []
            for goal, pairs in enumerate(pair_rows(sample, kind, one)):
                many = one[0][goal]
                found.append(tuple([some[goal][led(more, thing, way) * many + second] for way, second in pairs]))
            row.append(kept[kind].index(tuple(found)))
        rows.append(tuple(row))
    return tuple(rows)


def told_pairs(sample, limit):
    """Pairs of small worlds with a world of all maps that isn't refused, and this world with its maps."""
    told = []
    for one, other in some_pairs(sample, limit=limit):
        found = power_or_none(made(sample), one, other)
        if found is not None:
            told.append((one, other, found))
    return told


def power_or_none(pattern, one, other):
    try:
        return power(pattern, one, other)
    except errors.TooMany:
        return None


class Powers(unittest.TestCase):
    """[50] The world of all maps."""

    def test_written_out(self):
        for sample, one, other, world, told in POWERS:
            with self.subTest(sample=sample, one=one, other=other):
                self.assertEqual(power(made(sample), one, other), (world, told))

    def test_small_worlds_against_a_slow_search(self):
        for sample in ALL + (FIRST, LAST):
            for one, other in some_pairs(sample, limit=40):
                wanted = slow_power(sample, one, other)
                with self.subTest(sample=sample, one=one, other=other):
                    if max(wanted[0][0]) > 60:
                        assert_refused(self, errors.TooMany, lambda: power(made(sample), one, other))
                    else:
                        self.assert_right(sample, one, other, wanted)

    def assert_right(self, sample, one, other, wanted):
        pattern = made(sample)
        told = power(pattern, one, other)
        self.assertEqual(told, wanted)
        assert_tuples(self, told)
        self.assertTrue(is_world(pattern, told[0]))
        for kind, row in enumerate(told[1]):
            self.assertEqual(list(row), maps(pattern, product(pattern, seed(pattern, kind), one)[0], other))

    def test_three_things_against_a_slow_search(self):
        asked_of = (
            (FLIP, SWAP, FLIPPED), (REST, ((2,), ((1, 1),)), ((3,), ((1, 1, 2),))), (GRAPH, ARROW, ARROWS),
            (GRAPH, LOOP, ARROWS), (TURN, ((1,), ((0,), (0,))), TURNED),
            (CHAIN, ((1, 2, 1), ((1,), (0, 0), (0,))), LINKED),
            (LOOPS, ((1, 1), ((0,),) * 5), LOOPED), (LOOPS, LOOPED, ((1, 1), ((0,),) * 5)),
        )
        for sample, one, other in asked_of:
            with self.subTest(sample=sample, one=one, other=other):
                self.assert_right(sample, one, other, slow_power(sample, one, other))

    def test_of_one_thing_it_is_the_other_world(self):
        for sample, world in RIGHT:
            pattern = made(sample)
            told = power(pattern, one_thing(pattern), world)
            with self.subTest(sample=sample):
                # A map goes with the thing to which it takes staying.
                rows = tuple([tuple([some[kind][0] for some in row]) for kind, row in enumerate(told[1])])
                self.assertTrue(is_map(pattern, told[0], world, rows))
                self.assertTrue(is_apart(rows))
                self.assertEqual(told[0][0], world[0])

    def test_of_nothing_and_into_one_thing_it_has_one_thing_of_each_kind(self):
        for sample, world in RIGHT:
            pattern = made(sample)
            with self.subTest(sample=sample):
                told = power(pattern, nothing(pattern), world)
                self.assertEqual(told, (one_thing(pattern), ((((),) * sample[0],),) * sample[0]))
                self.assertEqual(power(pattern, world, one_thing(pattern))[0], one_thing(pattern))

    def test_into_nothing(self):
        for sample, world in RIGHT:
            pattern = made(sample)
            told = power(pattern, world, nothing(pattern))
            with self.subTest(sample=sample):
                for kind in range(sample[0]):
                    empty = not any(product(pattern, seed(pattern, kind), world)[0][0])
                    self.assertEqual(told[1][kind], (((),) * sample[0],) if empty else ())

    def test_just_sixty_are_told(self):
        for sample in ALL:
            pattern = made(sample)
            with self.subTest(sample=sample):
                told = power(pattern, one_thing(pattern), singles_of(sample, 60))
                self.assertEqual(told[0], singles_of(sample, 60))
                self.assertEqual([len(row) for row in told[1]], [60] * sample[0])

    def test_just_sixty_of_worlds_of_some_things(self):
        told = power(made(GRAPH), ((3, 3), ((0, 0, 1), (0, 0, 2))), ((3, 2), ((0, 0, 1), (0, 0, 1))))
        self.assertEqual(told[0][0], (60, 8))
        told = power(made(CHAIN), ((1, 3, 2), ((0,), (0, 0, 0), (0,))), ((3, 2, 5), ((0, 1, 1), (0, 0), (0, 0, 0))))
        self.assertEqual(told[0][0], (60, 40, 25))
        # Two things that are led to one: 7 * 7 + 3 * 3 + 1 + 1 maps.
        other = ((0, 12, 4), ((), (0,) * 7 + (1,) * 3 + (2, 3), ()))
        told = power(made(CHAIN), ((0, 2, 1), ((), (0, 0), ())), other)
        self.assertEqual(told[0][0], (60, 60, 4))

    def test_sixty_one_are_refused(self):
        for sample in ALL:
            pattern = made(sample)
            with self.subTest(sample=sample):
                other = singles_of(sample, 61)
                assert_refused(self, errors.TooMany, lambda: power(pattern, one_thing(pattern), other))
        # Two things that are led to one: 6 * 6 + 5 * 5 maps.
        other = ((0, 11, 2), ((), (0,) * 6 + (1,) * 5, ()))
        one = ((0, 2, 1), ((), (0, 0), ()))
        pattern = made(CHAIN)
        self.assertEqual(many_maps(pattern, product(pattern, seed(pattern, 1), one)[0], other), 61)
        assert_refused(self, errors.TooMany, lambda: power(pattern, one, other))

    def test_more_and_very_many_more_are_refused(self):
        for sample, one, other in REFUSED:
            pattern = made(sample)
            with self.subTest(sample=sample, one=one, other=other):
                assert_refused(self, errors.TooMany, lambda: power(pattern, one, other))

    def test_very_many_between_told_worlds(self):
        # From each of seven points an arrow to each.
        points = range(7)
        dense = ((49, 7), (tuple([one for one in points for other in points]), tuple(points) * 7))
        assert_refused(self, errors.TooMany, lambda: power(made(GRAPH), dense, dense))
        # Five doings, of which the one counts that is done first, and all sets of things to which they lead.
        pattern = Pattern(1, ((0, 0),) * 5, {(one, other): one for one in range(5) for other in range(5)})
        one = ((8,), ((0, 1, 2, 3, 4, 5, 1, 2), (0, 1, 2, 3, 4, 5, 3, 3), (0, 1, 2, 3, 4, 5, 5, 0),
                      (0, 1, 2, 3, 4, 5, 0, 4), (0, 1, 2, 3, 4, 5, 2, 1)))
        rows = list(itertools.product(range(2), repeat=5))
        other = ((34,), tuple([(0, 1) + tuple([row[doing] for row in rows]) for doing in range(5)]))
        self.assertTrue(is_world(pattern, one) and is_world(pattern, other))
        assert_refused(self, errors.TooMany, lambda: power(pattern, one, other))


class Asked(unittest.TestCase):
    """[51] What is asked of the world of all maps."""

    def test_written_out(self):
        self.assertEqual(asked(made(PLAIN), ((2,), ()), ((2,), ())), ((0, 0, 0, 1, 1, 0, 1, 1),))
        self.assertEqual(asked(made(PLAIN), ((0,), ()), ((2,), ())), ((),))
        self.assertEqual(asked(made(PLAIN_TWO), ((1, 2), ()), ((2, 1), ())), ((0, 1), (0, 0)))
        self.assertEqual(asked(made(FLIP), ONE, FLIPPED), ((0, 1, 2),))
        self.assertEqual(asked(made(FLIP), SWAP, SWAP), ((0, 0, 0, 1, 1, 0, 1, 1),))
        self.assertEqual(asked(made(GRAPH), POINT, ARROW), ((), (0, 1)))
        self.assertEqual(asked(made(GRAPH), ARROW, ARROW), ((0, 0, 0, 0), (0, 0, 0, 1, 1, 0, 1, 1)))

    def test_each_map_with_each_thing(self):
        for sample in ALL + (FIRST, LAST):
            pattern = made(sample)
            for one, other, (world, kept) in told_pairs(sample, 60):
                told = asked(pattern, one, other)
                with self.subTest(sample=sample, one=one, other=other):
                    assert_tuples(self, told)
                    self.assertTrue(is_map(pattern, product(pattern, world, one)[0], other, told))
                    for kind, row in enumerate(kept):
                        place = pair_rows(sample, kind, one)[kind].index
                        wanted = [some[kind][place((-1, thing))] for some in row for thing in range(one[0][kind])]
                        self.assertEqual(told[kind], tuple(wanted))

    def test_of_the_sample_worlds(self):
        for sample, world in RIGHT:
            pattern = made(sample)
            whole = power(pattern, one_thing(pattern), world)[0]
            told = asked(pattern, one_thing(pattern), world)
            with self.subTest(sample=sample):
                self.assertTrue(is_map(pattern, product(pattern, whole, one_thing(pattern))[0], world, told))
                self.assertEqual([sorted(row) for row in told], [list(range(size)) for size in world[0]])

    def test_refused_as_the_world_is(self):
        for sample, one, other in REFUSED:
            pattern = made(sample)
            with self.subTest(sample=sample, one=one, other=other):
                assert_refused(self, errors.TooMany, lambda: asked(pattern, one, other))


class CarriedAndBrought(unittest.TestCase):
    """[52] Maps of a product as maps into the world of all maps, and back."""

    def test_written_out(self):
        pattern = made(PLAIN)
        two = ((2,), ())
        # Pairs (0, 0), (0, 1) go to 0, 1, which is map 1; pairs (1, 0), (1, 1) to 1, 1, which is map 3.
        self.assertEqual(carried(pattern, two, two, two, ((0, 1, 1, 1),)), ((1, 3),))
        self.assertEqual(brought(pattern, two, two, two, ((1, 3),)), ((0, 1, 1, 1),))
        pattern = made(FLIP)
        # Of two things that are swapped both are led to the map that takes staying with a thing to the thing.
        self.assertEqual(carried(pattern, SWAP, SWAP, SWAP, ((0, 1, 0, 1),)), ((1, 1),))
        self.assertEqual(brought(pattern, SWAP, SWAP, SWAP, ((1, 1),)), ((0, 1, 0, 1),))
        self.assertEqual(carried(pattern, SWAP, SWAP, SWAP, ((0, 0, 1, 1),)), ((0, 3),))
        self.assertEqual(brought(pattern, SWAP, SWAP, SWAP, ((0, 3),)), ((0, 0, 1, 1),))
        pattern = made(GRAPH)
        self.assertEqual(carried(pattern, ARROW, POINT, ARROW, ((), (1, 0))), ((2,), (1, 0)))
        self.assertEqual(brought(pattern, ARROW, POINT, ARROW, ((2,), (1, 0))), ((), (1, 0)))

    def test_small_worlds(self):
        for sample in ALL + (FIRST, LAST):
            worlds = small_worlds(sample)
            for one, other, told in told_pairs(sample, 8):
                for more in worlds[::max(1, len(worlds) // 4)]:
                    with self.subTest(sample=sample, more=more, one=one, other=other):
                        self.assert_there_and_back(sample, more, one, other, told)

    def test_the_sample_worlds(self):
        for sample, one, other, world, told in POWERS:
            for more in [more for same, more in RIGHT if same == sample] + [one, other, nothing_of(sample)]:
                with self.subTest(sample=sample, more=more, one=one, other=other):
                    self.assert_there_and_back(sample, more, one, other, (world, told))

    def assert_there_and_back(self, sample, more, one, other, told):
        pattern = made(sample)
        whole = product(pattern, more, one)[0]
        many = many_maps(pattern, whole, other)
        self.assertEqual(many_maps(pattern, more, told[0]), many)
        if many <= 2000:
            here = maps(pattern, whole, other)
            there = maps(pattern, more, told[0])
            step = max(1, len(here) // 8)
            for some in here[::step]:
                self.assert_carried(sample, more, one, other, told, some)
            for some in there[::step]:
                self.assert_brought(pattern, more, one, other, some)

    def assert_carried(self, sample, more, one, other, told, some):
        pattern = made(sample)
        found = carried(pattern, more, one, other, some)
        assert_tuples(self, found)
        self.assertTrue(is_map(pattern, more, told[0], found))
        self.assertEqual(found, slow_carried(sample, more, one, told[1], some))
        self.assertEqual(brought(pattern, more, one, other, found), some)
        # Asked of it, a carried map tells what the given one tells.
        answers = asked(pattern, one, other)
        for kind, (size, many) in enumerate(zip(more[0], one[0])):
            for thing, second in itertools.product(range(size), range(many)):
                answer = answers[kind][found[kind][thing] * many + second]
                self.assertEqual(answer, some[kind][thing * many + second])

    def assert_brought(self, pattern, more, one, other, some):
        found = brought(pattern, more, one, other, some)
        assert_tuples(self, found)
        self.assertTrue(is_map(pattern, product(pattern, more, one)[0], other, found))
        self.assertEqual(carried(pattern, more, one, other, found), some)

    def test_all_maps_are_carried_to_all_maps(self):
        for sample, more, one, other in (
            (PLAIN, ((2,), ()), ((2,), ()), ((2,), ())), (FLIP, FLIPPED, SWAP, SWAP), (GRAPH, ARROW, ARROW, ARROWS),
            (REST, ((2,), ((1, 1),)), ((2,), ((0, 0),)), ((3,), ((1, 1, 2),))),
            (FIRST, ((3,), ((0, 1, 0), (0, 1, 1))), ((2,), ((0, 1), (0, 1))), ((3,), ((0, 1, 0), (0, 1, 1)))),
            (LAST, *[((2,), ((0, 0), (1, 1)))] * 3),
        ):
            pattern = made(sample)
            whole = product(pattern, more, one)[0]
            found = [carried(pattern, more, one, other, some) for some in maps(pattern, whole, other)]
            with self.subTest(sample=sample):
                self.assertEqual(sorted(found), maps(pattern, more, power(pattern, one, other)[0]))

    def test_asked_is_what_staying_is_brought_back_to(self):
        for sample, one, other, world, told in POWERS:
            pattern = made(sample)
            with self.subTest(sample=sample, one=one, other=other):
                self.assertEqual(brought(pattern, world, one, other, staying(world)), asked(pattern, one, other))
                self.assertEqual(carried(pattern, world, one, other, asked(pattern, one, other)), staying(world))

    def test_refused_as_the_world_is(self):
        for sample, one, other in REFUSED:
            pattern = made(sample)
            empty = nothing(pattern)
            rows = ((),) * sample[0]
            with self.subTest(sample=sample, one=one, other=other):
                # Even where the further world has no things, and so just one map.
                assert_refused(self, errors.TooMany, lambda: carried(pattern, empty, one, other, rows))
                assert_refused(self, errors.TooMany, lambda: brought(pattern, empty, one, other, rows))

    def test_refused_with_a_further_world_of_some_things(self):
        pattern = made(PLAIN_TWO)
        more = ((2, 0), ())
        # Kind 0, of which alone the further world has things, has few maps; kind 1 has 64.
        one = ((1, 6), ())
        other = ((2, 2), ())
        assert_refused(self, errors.TooMany, lambda: carried(pattern, more, one, other, ((0, 1), ())))
        assert_refused(self, errors.TooMany, lambda: brought(pattern, more, one, other, ((0, 1), ())))


class NothingHangsOnIt(unittest.TestCase):
    """[1] The pattern stays, and asked again the same is told."""

    def test_asked_again_the_same_is_told(self):
        for sample, one, other, world, told in POWERS:
            pattern = made(sample)
            stay = staying(world)
            calls = (
                lambda: power(pattern, one, other), lambda: asked(pattern, one, other),
                lambda: brought(pattern, world, one, other, stay),
                lambda: carried(pattern, nothing(pattern), one, other, ((),) * sample[0]),
            )
            ahead = [call() for call in calls]
            for kind in range(sample[0]):
                pattern.ways(kind).clear()
            with self.subTest(sample=sample, one=one, other=other):
                self.assertEqual([call() for call in reversed(calls)], ahead[::-1])
                self.assertEqual((pattern.kinds(), pattern.doings()), sample[:2])

    def test_what_was_refused_changes_nothing(self):
        pattern = made(PLAIN)
        for time in range(2):
            assert_refused(self, errors.TooMany, lambda: power(pattern, ((6,), ()), ((2,), ())))
            self.assertEqual(power(pattern, ((5,), ()), ((2,), ()))[0], ((32,), ()))

    def test_the_table_changed_later_changes_nothing(self):
        table = {(0, 0): -1}
        pattern = Pattern(1, ((0, 0),), table)
        ahead = power(pattern, SWAP, SWAP)
        table[(0, 0)] = 0
        self.assertEqual(power(pattern, SWAP, SWAP), ahead)


if __name__ == "__main__":
    unittest.main()
