"""Promise 90, and 1 for notes."""

import unittest

from mapwright import errors
from mapwright.allmaps import maps
from mapwright.joins import one_thing, product
from mapwright.notes import map_read, map_text, world_read, world_text
from mapwright.truths import truths
from tests.kinds import assert_tuples
from tests.refusals import assert_refused
from tests.samples import (
    ALL, ARROWS, CHAIN, FLIP, FLIPPED, GRAPH, LINKED, PLAIN, PLAIN_THREE, PLAIN_TWO, REST, RIGHT, made, nothing_of,
)
from tests.slow import small_worlds, some_pairs

ARROW = ((1, 2), ((0,), (1,)))

WORLDS = (
    (PLAIN, ((0,), ()), "0"),
    (PLAIN, ((5,), ()), "5"),
    (PLAIN, ((10,), ()), "10"),
    (PLAIN, ((999999,), ()), "999999"),
    (PLAIN_TWO, ((0, 3), ()), "0 3"),
    (PLAIN_THREE, ((1, 0, 20), ()), "1 0 20"),
    (GRAPH, ARROWS, "3 2 ; 0 1 1 ; 1 1 0"),
    (GRAPH, ((0, 0), ((), ())), "0 0 ; - ; -"),
    (GRAPH, ((0, 8), ((), ())), "0 8 ; - ; -"),
    (FLIP, FLIPPED, "3 ; 1 0 2"),
    (FLIP, ((0,), ((),)), "0 ; -"),
    (REST, ((12,), ((11,) * 12,)), "12 ; 11 11 11 11 11 11 11 11 11 11 11 11"),
    (CHAIN, LINKED, "2 3 2 ; 2 0 ; 1 0 0 ; 0 1"),
    (CHAIN, ((0, 1, 2), ((), (1,), ())), "0 1 2 ; - ; 1 ; -"),
)

# The worlds between which a map goes, the map, and its text.
MAPS = (
    (PLAIN, ((0,), ()), ((3,), ()), ((),), "-"),
    (PLAIN, ((2,), ()), ((20,), ()), ((19, 0),), "19 0"),
    (PLAIN_TWO, ((0, 2), ()), ((1, 1), ()), ((), (0, 0)), "- ; 0 0"),
    (PLAIN_THREE, ((0, 0, 0), ()), ((0, 0, 0), ()), ((), (), ()), "- ; - ; -"),
    (GRAPH, ARROW, ARROWS, ((2,), (1, 0)), "2 ; 1 0"),
    (GRAPH, ((0, 1), ((), ())), ARROWS, ((), (1,)), "- ; 1"),
    (FLIP, FLIPPED, FLIPPED, ((1, 0, 2),), "1 0 2"),
)

# Texts that write no world of whatever pattern, but for the blanks, figures or signs in them.
NO_TEXTS = (
    "", " ", ";", " ; ", "-", "- ; - ; -", "3 2 ; 0 1 1 ; 1 1 0 ", " 3 2 ; 0 1 1 ; 1 1 0", "3  2 ; 0 1 1 ; 1 1 0",
    "3 2 ; 0 1  1 ; 1 1 0", "3 2  ; 0 1 1 ; 1 1 0", "3 2 ;  0 1 1 ; 1 1 0", "3 2; 0 1 1 ; 1 1 0",
    "3 2 ;0 1 1 ; 1 1 0", "3 2;0 1 1;1 1 0", "3 2 ; 0 1 1 ; 1 1 0 ;", "3 2 ; 0 1 1 ; 1 1 0 ; ", "; 3 2 ; 0 1 1 ; 1 1 0",
    "3 2 ; 0 1 1 ;  ; 1 1 0", "3 2 ; 0 1 1 ; ; 1 1 0", "03 2 ; 0 1 1 ; 1 1 0", "3 2 ; 00 1 1 ; 1 1 0",
    "3 2 ; 0 01 1 ; 1 1 0", "3 2 ; 0 1 1 ; 1 1 00", "+3 2 ; 0 1 1 ; 1 1 0", "3 2 ; 0 +1 1 ; 1 1 0",
    "3 2 ; -0 1 1 ; 1 1 0",
    "3 2 ; 0 1 1 ; 1 1 -0", "3 2 ; 0 -1 1 ; 1 1 0", "-3 2 ; 0 1 1 ; 1 1 0", "3 2 ; 0 1 1 ; 1 1 0.",
    "3 2 ; 0 1 1 ; 1 1 0.0",
    "3 2 ; 0 1 1 ; 1 1 a", "3 2 ; 0 1 1 ; 1 1 O", "3,2 ; 0,1,1 ; 1,1,0", "(3 2 ; 0 1 1 ; 1 1 0)",
    "3 2 ; 0 1 1 ; 1 1 0\n",
    "\t3 2 ; 0 1 1 ; 1 1 0", "3 2 ; 0 1 1 ; 1 1 - ", "3 2 ; 0 1 1 ; 1 1 0 -", "3 2 ; 0 1 1 ; 1_1 0",
    "3 2 / 0 1 1 / 1 1 0",
    "3 2 ; 0 1 1 ; 1 1 1e0", "3 2 ; 0 1 1 ; 1 1 0x0", "3 2 ; 0 1 1 ; 1 1 ~", "3 2 : 0 1 1 : 1 1 0",
    "3 2 ; 0 1 1 ; 1 1 \u0660", "3 2 ; 0 1 1 ; 1 1 \u00b2", "3\u00a02 ; 0 1 1 ; 1 1 0", "three two", "--", "- -",
    "1" * 5000,
)

# Written as it should be, but of no world of arrows and points.
NO_GRAPHS = (
    "3 2 ; 0 1 1", "3 2", "3 2 ; 0 1 1 ; 1 1 0 ; 0", "3 2 ; 0 1 1 ; 1 1 0 ; -", "3 ; 0 1 1 ; 1 1 0",
    "3 2 1 ; 0 1 1 ; 1 1 0",
    "2 2 ; 0 1 1 ; 1 1 0", "4 2 ; 0 1 1 ; 1 1 0", "3 1 ; 0 1 1 ; 1 1 0", "3 2 ; 0 1 ; 1 1 0", "3 2 ; 0 1 1 ; 1 1 0 0",
    "3 2 ; 0 1 2 ; 1 1 0", "3 2 ; - ; -", "0 2 ; - ; 0", "0 0 ; - ; - ; -", "0 0 ; -", "- ; - ; -", "0 0",
    "3 0 ; 0 0 0 ; 0 0 0", "999999 1 ; 0 ; 0",
)

OTHER_THINGS = (None, 0, 3, True, ARROWS, ("3 2",), ["3 2"], {}, b"3 2 ; 0 1 1 ; 1 1 0", 1.5, object())


class Written(unittest.TestCase):
    """[90] Worlds and maps as texts, and read again."""

    def test_worlds(self):
        for sample, world, text in WORLDS:
            with self.subTest(text=text):
                self.assertEqual(world_text(world), text)
                self.assertIs(type(world_text(world)), str)
                told = world_read(made(sample), text)
                self.assertEqual(told, world)
                assert_tuples(self, told)

    def test_maps(self):
        for sample, one, other, some, text in MAPS:
            with self.subTest(text=text):
                self.assertEqual(map_text(some), text)
                self.assertIs(type(map_text(some)), str)
                told = map_read(made(sample), one, other, text)
                self.assertEqual(told, some)
                assert_tuples(self, told)

    def test_all_small_worlds(self):
        for sample in ALL:
            for world in small_worlds(sample)[:400]:
                self.assertEqual(world_read(made(sample), world_text(world)), world)

    def test_all_maps_of_small_worlds(self):
        for sample in ALL:
            pattern = made(sample)
            for one, other in some_pairs(sample, limit=60):
                for some in maps(pattern, one, other):
                    self.assertEqual(map_read(pattern, one, other, map_text(some)), some)

    def test_unlike_worlds_have_unlike_texts(self):
        for sample in ALL:
            worlds = small_worlds(sample)
            self.assertEqual(len(set([world_text(world) for world in worlds])), len(worlds))

    def test_told_worlds(self):
        for sample, world in RIGHT:
            pattern = made(sample)
            for told in (product(pattern, world, world)[0], truths(pattern)[0], one_thing(pattern)):
                self.assertEqual(world_read(pattern, world_text(told)), told)

    def test_a_long_text(self):
        world = ((700,), (tuple(range(700)),))
        self.assertGreater(len(world_text(world)), 2000)
        self.assertEqual(world_read(made(FLIP), world_text(world)), world)


class Refused(unittest.TestCase):
    """[90] Other texts, and what is no text, are refused."""

    def assert_no_world(self, sample, text):
        with self.subTest(sample=sample, text=text):
            assert_refused(self, errors.BadNote, lambda: world_read(made(sample), text))

    def assert_no_map(self, sample, one, other, text):
        with self.subTest(sample=sample, one=one, other=other, text=text):
            assert_refused(self, errors.BadNote, lambda: map_read(made(sample), one, other, text))

    def test_texts_that_write_nothing(self):
        for text in NO_TEXTS:
            self.assert_no_world(GRAPH, text)
            self.assert_no_map(GRAPH, ARROW, ARROWS, text)

    def test_texts_that_write_no_world_of_one_kind(self):
        wrong = (
            "", " ", "-", "05", "00", "+5", "-5", "5 ", " 5", "5 5", "5 ; ", "5 ; 0", "5 ; -", "5;", "five", "5.0",
            "5\n",
        )
        for text in wrong:
            self.assert_no_world(PLAIN, text)

    def test_texts_that_write_no_world_of_the_pattern(self):
        for text in NO_GRAPHS:
            self.assert_no_world(GRAPH, text)

    def test_the_table_counts(self):
        # Each leads somewhere, but done twice not back, or elsewhere than once.
        self.assert_no_world(FLIP, "3 ; 1 2 0")
        self.assert_no_world(FLIP, "2 ; 0 0")
        self.assert_no_world(REST, "3 ; 1 0 2")
        self.assert_no_world(CHAIN, "2 3 2 ; 2 0 ; 1 0 0 ; 1 1")

    def test_texts_of_worlds_of_other_patterns(self):
        self.assert_no_world(PLAIN, "3 ; 1 0 2")
        self.assert_no_world(FLIP, "3")
        self.assert_no_world(GRAPH, "2 3 2 ; 2 0 ; 1 0 0 ; 0 1")
        self.assert_no_world(PLAIN_TWO, "1")
        self.assert_no_world(PLAIN, "1 1")

    def test_other_things_than_texts(self):
        for some in OTHER_THINGS:
            self.assert_no_world(GRAPH, some)
            self.assert_no_map(GRAPH, ARROW, ARROWS, some)
            self.assert_no_world(PLAIN, some)
            self.assert_no_map(PLAIN, ((0,), ()), ((0,), ()), some)

    def test_texts_that_write_no_map(self):
        wrong = (
            "2 ; 1 1", "2 ; 0 1", "0 ; 1 0", "2", "1 0", "2 ; 1 0 ; 0", "2 ; 1 0 ; -", "2 2 ; 1 0", "2 ; 1",
            "2 ; 1 0 0",
            "- ; 1 0", "2 ; -", "- ; -", "3 ; 1 0", "2 ; 2 0", "2 ; 1 2", "02 ; 1 0", "2 ; 1 00", "2 ; 1  0",
            "2  ; 1 0",
            " 2 ; 1 0", "2 ; 1 0 ", "2; 1 0", "2 ;1 0", "-2 ; 1 0", "+2 ; 1 0", "2 / 1 0", "1 2 ; 0 ; 1",
        )
        for text in wrong:
            self.assert_no_map(GRAPH, ARROW, ARROWS, text)
        self.assert_no_map(GRAPH, ARROW, nothing_of(GRAPH), "0 ; 0 0")
        self.assert_no_map(PLAIN, ((0,), ()), ((3,), ()), "")
        self.assert_no_map(PLAIN, ((0,), ()), ((3,), ()), "0")
        self.assert_no_map(PLAIN, ((1,), ()), ((3,), ()), "-")

    def test_what_was_refused_changes_nothing(self):
        pattern = made(GRAPH)
        for text in NO_TEXTS[:20] + NO_GRAPHS:
            assert_refused(self, errors.BadNote, lambda: world_read(pattern, text))
            self.assertEqual(world_read(pattern, "3 2 ; 0 1 1 ; 1 1 0"), ARROWS)
            self.assertEqual(map_read(pattern, ARROW, ARROWS, "2 ; 1 0"), ((2,), (1, 0)))


if __name__ == "__main__":
    unittest.main()
