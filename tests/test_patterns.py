"""Promises 10 and 11, and 1 for patterns."""

import itertools
import unittest

from mapwright import errors
from mapwright.patterns import Pattern
from tests.samples import (
    ALL, CHAIN, FLIP, GRAPH, HOOK, LOOPS, PLAIN, PLAIN_THREE, PLAIN_TWO, REST, TURN, TURN_SIX,
    made, table_with, table_without,
)


class Taken(unittest.TestCase):
    """[10] What is a pattern is taken as one."""

    def test_kinds_and_doings_are_told_as_handed_in(self):
        for sample in ALL:
            with self.subTest(sample=sample):
                pattern = made(sample)
                self.assertEqual(pattern.kinds(), sample[0])
                self.assertEqual(pattern.doings(), sample[1])

    def test_doings_are_told_as_a_tuple_of_tuples(self):
        doings = made(GRAPH).doings()
        self.assertIsInstance(doings, tuple)
        for ends in doings:
            self.assertIsInstance(ends, tuple)

    def test_one_two_and_three_kinds_without_doings(self):
        for sample, kinds in ((PLAIN, 1), (PLAIN_TWO, 2), (PLAIN_THREE, 3)):
            with self.subTest(kinds=kinds):
                self.assertEqual(made(sample).kinds(), kinds)
                self.assertEqual(made(sample).doings(), ())

    def test_five_doings_of_one_two_and_three_kinds(self):
        for sample, kinds in ((TURN_SIX, 1), (LOOPS, 2), (HOOK, 3)):
            with self.subTest(kinds=kinds):
                self.assertEqual(made(sample).kinds(), kinds)
                self.assertEqual(len(made(sample).doings()), 5)

    def test_five_doings_that_never_meet(self):
        self.assertEqual(Pattern(2, ((0, 1),) * 5, {}).doings(), ((0, 1),) * 5)

    def test_of_two_doings_of_the_same_ends_either_may_be_the_entry(self):
        doings = ((0, 1), (1, 2), (0, 2), (0, 2))
        for way in (2, 3):
            with self.subTest(way=way):
                self.assertEqual(Pattern(3, doings, {(0, 1): way}).behind(0, 1), way)


class Refused(unittest.TestCase):
    """[10] What is no pattern is refused with NoPattern."""

    def assert_refused(self, kinds, doings, table):
        with self.subTest(kinds=kinds, doings=doings, table=table):
            kept = dict(table)
            with self.assertRaises(errors.NoPattern):
                Pattern(kinds, doings, table)
            self.assertEqual(table, kept)

    def test_kinds(self):
        for kinds in (0, 4, 5, -1, -3, 10 ** 20, -(10 ** 20)):
            self.assert_refused(kinds, (), {})

    def test_kinds_beyond_with_doings_that_would_be_right(self):
        self.assert_refused(4, ((0, 3),), {})

    def test_six_doings(self):
        self.assert_refused(2, ((0, 1),) * 6, {})
        self.assert_refused(1, ((0, 0),) * 6, {(i, j): (i + j + 2) % 7 - 1 for i in range(6) for j in range(6)})

    def test_end_beyond_the_kinds(self):
        self.assert_refused(2, ((0, 2),), {})
        self.assert_refused(2, ((2, 0),), {})
        self.assert_refused(1, ((1, 1),), {(0, 0): -1})
        self.assert_refused(3, ((0, 1), (0, 3)), {})
        self.assert_refused(3, ((0, 1), (3, 1)), {})

    def test_end_below_nought(self):
        self.assert_refused(2, ((0, -1),), {})
        self.assert_refused(2, ((-1, 0),), {})
        self.assert_refused(2, ((-1, -1),), {(0, 0): 0})
        self.assert_refused(3, ((0, 1), (-3, 1)), {})

    def test_pair_that_meets_is_missing(self):
        self.assert_refused(1, ((0, 0),), {})
        for sample in (TURN, CHAIN, LOOPS, HOOK):
            for pair in sample[2]:
                self.assert_refused(*table_without(sample, pair))

    def test_pair_that_does_not_meet(self):
        for pair in ((0, 1), (1, 0), (0, 0), (1, 1)):
            for way in (-1, 0, 1):
                self.assert_refused(*table_with(GRAPH, {pair: way}))
        self.assert_refused(*table_with(CHAIN, {(1, 0): 2}))
        self.assert_refused(*table_with(CHAIN, {(2, 0): 2}))

    def test_pair_that_does_not_meet_in_the_stead_of_one_that_does(self):
        self.assert_refused(3, CHAIN[1], {(1, 0): 2})

    def test_pair_of_no_doings(self):
        for pair in ((0, 1), (1, 0), (1, 1), (7, 9), (0, -1), (-1, 0), (-1, -1), (-2, 0)):
            for way in (-1, 0):
                self.assert_refused(*table_with(FLIP, {pair: way}))
        self.assert_refused(1, (), {(0, 0): -1})
        self.assert_refused(1, (), {(-1, -1): -1})
        self.assert_refused(*table_with(GRAPH, {(-1, 0): 0}))

    def test_entry_that_is_no_way(self):
        for way in (-2, 1, 2, -7, 10 ** 20):
            self.assert_refused(*table_with(FLIP, {(0, 0): way}))
        for way in (-2, -3, 3, 4):
            self.assert_refused(*table_with(CHAIN, {(0, 1): way}))

    def test_entry_of_other_ends(self):
        for way in (0, 1):
            self.assert_refused(*table_with(CHAIN, {(0, 1): way}))
        self.assert_refused(2, ((0, 1), (1, 1)), {(0, 1): 1, (1, 1): 1})
        self.assert_refused(2, ((0, 1), (1, 1)), {(0, 1): 0, (1, 1): 0})
        self.assert_refused(2, ((0, 0), (0, 1)), {(0, 0): 0, (0, 1): 0})
        self.assert_refused(2, ((0, 1), (1, 0), (1, 1)), {
            (0, 1): 2, (1, 0): 2, (0, 2): 0, (2, 1): 1, (2, 2): 2,
        })

    def test_staying_where_the_ends_are_two_kinds(self):
        self.assert_refused(*table_with(CHAIN, {(0, 1): -1}))
        self.assert_refused(2, ((0, 1), (1, 1)), {(0, 1): -1, (1, 1): 1})

    def test_three_doings_that_come_to_something_else(self):
        self.assert_refused(*table_with(HOOK, {(3, 2): 4}))
        self.assert_refused(1, ((0, 0), (0, 0)), {(0, 0): 1, (0, 1): 0, (1, 0): 1, (1, 1): 1})

    def test_three_doings_of_which_two_come_to_staying(self):
        self.assert_refused(1, ((0, 0), (0, 0)), {(0, 0): -1, (0, 1): 0, (1, 0): 1, (1, 1): 1})
        self.assert_refused(1, ((0, 0), (0, 0)), {(0, 0): -1, (0, 1): 1, (1, 0): 0, (1, 1): 1})
        self.assert_refused(1, ((0, 0), (0, 0)), {(0, 0): 0, (0, 1): -1, (1, 0): -1, (1, 1): 1})

    def test_no_pattern_is_a_map_error_and_none_of_the_others(self):
        with self.assertRaises(ValueError) as caught:
            Pattern(0, (), {})
        self.assertIsInstance(caught.exception, errors.MapError)
        self.assertIsInstance(caught.exception, errors.NoPattern)
        others = (errors.NoMap, errors.TooMany, errors.NoSaying, errors.NoName, errors.BadNote)
        self.assertNotIsInstance(caught.exception, others)


class EveryTable(unittest.TestCase):
    """[10] All tables of a few doings, with how many are patterns counted otherwise."""

    def count_taken(self, kinds, doings, pairs, entries):
        taken = 0
        for ways in itertools.product(entries, repeat=len(pairs)):
            try:
                Pattern(kinds, doings, dict(zip(pairs, ways)))
                taken += 1
            except errors.NoPattern:
                pass
        return taken

    def test_one_doing_of_one_kind(self):
        self.assertEqual(self.count_taken(1, ((0, 0),), [(0, 0)], range(-3, 4)), 2)

    def test_two_doings_of_one_kind(self):
        # Monoids of three with a set unit are 11.
        pairs = [(0, 0), (0, 1), (1, 0), (1, 1)]
        self.assertEqual(self.count_taken(1, ((0, 0), (0, 0)), pairs, range(-2, 3)), 11)

    def test_a_doing_there_and_one_back_and_one_between(self):
        # One behind the other there and back they stay; the third is then there and back, done twice itself.
        doings = ((0, 1), (1, 0), (1, 1))
        pairs = [(0, 1), (0, 2), (1, 0), (2, 1), (2, 2)]
        self.assertEqual(self.count_taken(2, doings, pairs, range(-1, 3)), 1)
        back = {(0, 1): -1, (0, 2): 0, (1, 0): 2, (2, 1): 1, (2, 2): 2}
        self.assertEqual(Pattern(2, doings, back).behind(0, 1), -1)


class Ways(unittest.TestCase):
    """[11] What ways come to, the ways from a kind, and where they lead."""

    def test_behind_of_two_doings_that_meet(self):
        for sample in ALL:
            for pair, way in sample[2].items():
                with self.subTest(sample=sample, pair=pair):
                    self.assertEqual(made(sample).behind(pair[0], pair[1]), way)

    def test_behind_with_staying(self):
        for sample in ALL:
            pattern = made(sample)
            for doing in range(len(sample[1])):
                with self.subTest(sample=sample, doing=doing):
                    self.assertEqual(pattern.behind(-1, doing), doing)
                    self.assertEqual(pattern.behind(doing, -1), doing)
            self.assertEqual(pattern.behind(-1, -1), -1)

    def test_behind_keeps_to_the_order_of_the_two(self):
        # The first of two tells: both doings come to whichever is done first.
        table = {(0, 0): 0, (0, 1): 0, (1, 0): 1, (1, 1): 1}
        pattern = Pattern(1, ((0, 0), (0, 0)), table)
        self.assertEqual(pattern.behind(0, 1), 0)
        self.assertEqual(pattern.behind(1, 0), 1)

    def test_ways_of_each_kind(self):
        told = (
            (PLAIN, [[-1]]),
            (PLAIN_THREE, [[-1], [-1], [-1]]),
            (GRAPH, [[-1, 0, 1], [-1]]),
            (FLIP, [[-1, 0]]),
            (REST, [[-1, 0]]),
            (TURN_SIX, [[-1, 0, 1, 2, 3, 4]]),
            (CHAIN, [[-1, 0, 2], [-1, 1], [-1]]),
            (LOOPS, [[-1, 0, 1, 3, 4], [-1, 2]]),
            (HOOK, [[-1, 0, 3, 4], [-1, 1], [-1, 2]]),
        )
        for sample, ways in told:
            with self.subTest(sample=sample):
                pattern = made(sample)
                self.assertEqual([pattern.ways(kind) for kind in range(sample[0])], ways)

    def test_ways_are_a_list(self):
        self.assertIsInstance(made(GRAPH).ways(0), list)

    def test_end_of_staying(self):
        for sample in ALL:
            for kind in range(sample[0]):
                with self.subTest(sample=sample, kind=kind):
                    self.assertEqual(made(sample).end(kind, -1), kind)

    def test_end_of_each_doing(self):
        for sample in ALL:
            for doing, ends in enumerate(sample[1]):
                with self.subTest(sample=sample, doing=doing):
                    self.assertEqual(made(sample).end(ends[0], doing), ends[1])


class NothingHangsOnIt(unittest.TestCase):
    """[1] Nothing handed in is changed or kept, and what is told is the asker's own."""

    def told(self, pattern):
        return (
            pattern.kinds(),
            pattern.doings(),
            [pattern.ways(kind) for kind in range(pattern.kinds())],
            [pattern.behind(one, other) for one, other in sorted(LOOPS[2])],
        )

    def test_what_is_handed_in_stays(self):
        for sample in ALL:
            table = dict(sample[2])
            pattern = Pattern(sample[0], sample[1], table)
            for kind in range(sample[0]):
                for way in pattern.ways(kind):
                    pattern.behind(-1, way)
                    pattern.end(kind, way)
            with self.subTest(sample=sample):
                self.assertEqual(list(table.items()), list(sample[2].items()))

    def test_the_table_changed_later_changes_nothing(self):
        table = dict(LOOPS[2])
        pattern = Pattern(LOOPS[0], LOOPS[1], table)
        ahead = self.told(pattern)
        for pair in table:
            table[pair] = 99
        self.assertEqual(self.told(pattern), ahead)
        table.clear()
        self.assertEqual(self.told(pattern), ahead)

    def test_two_patterns_of_one_table_are_apart(self):
        table = {(0, 0): -1}
        flip = Pattern(1, ((0, 0),), table)
        table[(0, 0)] = 0
        rest = Pattern(1, ((0, 0),), table)
        self.assertEqual((flip.behind(0, 0), rest.behind(0, 0)), (-1, 0))

    def test_a_told_list_that_was_changed_is_told_again_as_it_was(self):
        pattern = made(LOOPS)
        pattern.ways(0).clear()
        self.assertEqual(pattern.ways(0), [-1, 0, 1, 3, 4])
        pattern.ways(0).append(7)
        self.assertEqual(pattern.ways(0), [-1, 0, 1, 3, 4])
        self.assertIsNot(pattern.ways(0), pattern.ways(0))

    def test_asked_again_the_same_is_told(self):
        pattern = made(LOOPS)
        self.assertEqual(self.told(pattern), self.told(pattern))
        self.assertEqual(self.told(pattern), self.told(made(LOOPS)))


if __name__ == "__main__":
    unittest.main()
