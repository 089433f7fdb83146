"""Promises 91 and 92, and 1 for the desk."""

import itertools
import unittest

from mapwright import errors
from mapwright.alike import shows
from mapwright.allmaps import many_maps, maps
from mapwright.desk import Desk
from mapwright.joins import nothing, one_thing, product, sum_of
from mapwright.notes import map_read, map_text, world_read, world_text
from mapwright.patterns import Pattern
from mapwright.pieces import pieces
from mapwright.powers import power
from mapwright.seeds import seed
from mapwright.truths import truths
from tests.refusals import assert_refused
from tests.samples import (
    ALL, ARROWS, FLIP, FLIPPED, GRAPH, LOOPED, LOOPS, PLAIN, PLAIN_THREE, PLAIN_TWO, RIGHT, TURN_SIX, made,
)

ARROW_TEXT = "1 2 ; 0 ; 1"
ARROWS_TEXT = "3 2 ; 0 1 1 ; 1 1 0"

# Lines that no desk of arrows and points takes.
NO_LINES = (
    # No word, blanks, and words that are none.
    "", " ", "  ", "say", "keeps a 0 0 ; - ; -", "Names", "NAMES", "name", "names ", " names", "names a", "ok",
    "help", "-", "a",
    # Words lacking or more.
    "keep", "keep a", "keep ", "seed", "seed a", "seed 0", "seed a 0 0", "seed a 0 b", "one", "one a a", "none",
    "none a a",
    "truths", "truths a a", "times", "times a", "times a a", "times a a a a", "plus a a", "plus a a a a", "power a a",
    "power a a a a", "drop", "drop a a", "show", "show a a", "pieces", "pieces a a", "many", "many a",
    "many a a a", "maps",
    "maps a", "maps a a a", "alike", "alike a", "alike a a a",
    # Two blanks, or a blank ahead or behind.
    "show  a", "show a ", " show a", "seed  b 0", "seed b  0", "seed b 0 ", "one b ", "one  b", "times b  a a",
    "times b a  a",
    "times b a a ", "drop a ", "drop  a", "many a  a", "many a a ", "maps  a a", "alike a a ", "pieces  a", "truths  b",
    "keep  b 0 0 ; - ; -", "keep b  0 0 ; - ; -", "keep b 0 0 ; - ; - ", " keep b 0 0 ; - ; -", "show\ta", "show a\n",
    # Names that are none.
    "one A", "one Aa", "one a1", "one 1", "one abcdefghi", "one a-b", "one a_b", "one -", "one \u00e4",
    "one \u00df", "one a.",
    "none Z", "truths abcdefghi", "seed B 0", "seed 0 0", "keep B 0 0 ; - ; -", "keep abcdefghi 0 0 ; - ; -",
    "keep 0 0 ; - ; -", "times B a a", "times b A a", "times b a A", "plus b a abcdefghi", "plus b 1 a", "power b- a a",
    "power b a a-", "drop A", "drop abcdefghi", "drop 0", "show A", "show 0", "pieces A", "many A a", "many a A",
    "maps a 0",
    "maps 0 a", "alike a aA", "alike Aa a",
    # Kinds that are none.
    "seed b 2", "seed b 3", "seed b -1", "seed b 00", "seed b 01", "seed b +0", "seed b a", "seed b 0.",
    "seed b \u0660",
    "seed b -",
    # Texts that write none.
    "keep b 0", "keep b -", "keep b 0 0", "keep b 0 0 ; -", "keep b 0 0 ; - ; - ; -", "keep b 1 1 ; 0 ; 1",
    "keep b 1 1 ; 0 ; -",
    "keep b 01 1 ; 0 ; 0", "keep b 1 1 ; 0;  0", "keep b 1 1 ;0 ; 0", "keep b 3 ; 1 0 2", "keep b a",
    "keep b 1 1 ; 0 ; 0 a",
)

OTHER_THINGS = (None, 0, True, ["names"], ("names",), {}, b"names", 1.5, object())

# Lines with a name by which nothing is kept, where a world is kept by a.
NO_NAMES = (
    "drop b", "show b", "pieces b", "many b a", "many a b", "many b b", "maps b a", "maps a b", "alike a b",
    "alike b a",
    "times b b a", "times b a b", "times a a b", "times c b b", "plus b b a", "plus a a b", "power b b a",
    "power b a b",
    "drop aa", "show names", "show ok", "show one", "show abcdefgh",
)


def desk_with(sample, lines):
    """A desk that was told some lines."""
    desk = Desk(made(sample))
    for line in lines:
        desk.say(line)
    return desk


def state(desk):
    """All names, and the texts of their worlds."""
    names = desk.say("names")
    return [names] + [desk.say(f"show {name}") for name in names.split()]


class Lines(unittest.TestCase):
    """[91] Each line and its answer."""

    def assert_said(self, desk, line, wanted):
        with self.subTest(line=line):
            told = desk.say(line)
            self.assertEqual(told, wanted)
            self.assertIs(type(told), str)

    def assert_kept(self, desk, line, wanted):
        self.assert_said(desk, line, "ok")
        self.assert_said(desk, "show " + line.split(" ")[1], wanted)

    def test_keep(self):
        desk = Desk(made(GRAPH))
        self.assert_kept(desk, "keep a " + ARROWS_TEXT, ARROWS_TEXT)
        self.assert_kept(desk, "keep abcdefgh 0 0 ; - ; -", "0 0 ; - ; -")
        self.assert_kept(desk, "keep z 0 12 ; - ; -", "0 12 ; - ; -")
        self.assert_kept(Desk(made(PLAIN)), "keep a 7", "7")
        self.assert_kept(Desk(made(PLAIN_THREE)), "keep keep 7 0 1", "7 0 1")

    def test_words_of_lines_may_be_names(self):
        desk = Desk(made(GRAPH))
        for name in ("keep", "names", "ok", "drop", "alike", "none"):
            self.assert_kept(desk, f"keep {name} {ARROW_TEXT}", ARROW_TEXT)
        self.assert_said(desk, "names", "alike drop keep names none ok")
        self.assert_said(desk, "drop drop", "ok")
        self.assert_said(desk, "names", "alike keep names none ok")

    def test_what_is_made(self):
        desk = Desk(made(GRAPH))
        self.assert_kept(desk, "seed a 0", ARROW_TEXT)
        self.assert_kept(desk, "seed p 1", "0 1 ; - ; -")
        self.assert_kept(desk, "one o", "1 1 ; 0 ; 0")
        self.assert_kept(desk, "none n", "0 0 ; - ; -")
        self.assert_kept(desk, "truths t", "5 2 ; 0 1 1 1 0 ; 0 1 0 1 1")
        self.assert_kept(desk, "times x a a", "1 4 ; 0 ; 3")
        self.assert_kept(desk, "plus y a p", "1 3 ; 0 ; 1")
        self.assert_kept(desk, "plus w p a", "1 3 ; 1 ; 2")
        self.assert_kept(desk, "power z p a", "4 2 ; 0 0 1 1 ; 0 1 0 1")
        self.assert_kept(desk, "power v a p", "0 1 ; - ; -")
        self.assert_said(desk, "names", "a n o p t v w x y z")

    def test_what_is_made_in_each_pattern(self):
        for sample, world in RIGHT:
            pattern = made(sample)
            desk = desk_with(sample, ["keep a " + world_text(world), "keep b " + world_text(one_thing(pattern))])
            other = one_thing(pattern)
            wanted = {
                "one n": other, "none n": nothing(pattern), "truths n": truths(pattern)[0],
                "times n a b": product(pattern, world, other)[0], "times n b a": product(pattern, other, world)[0],
                "plus n a b": sum_of(pattern, world, other)[0], "plus n b a": sum_of(pattern, other, world)[0],
                "power n a b": power(pattern, world, other)[0], "power n b a": power(pattern, other, world)[0],
            }
            for kind in range(sample[0]):
                wanted[f"seed n {kind}"] = seed(pattern, kind)
            for line, told in wanted.items():
                self.assert_kept(desk, line, world_text(told))
                self.assert_said(desk, "show a", world_text(world))

    def test_each_kind_has_a_seed(self):
        for sample in ALL:
            desk = Desk(made(sample))
            for kind in range(5):
                with self.subTest(sample=sample, kind=kind):
                    if kind < sample[0]:
                        self.assert_said(desk, f"seed a {kind}", "ok")
                    else:
                        assert_refused(self, errors.BadNote, lambda: desk.say(f"seed a {kind}"))

    def test_drop_and_names(self):
        desk = Desk(made(GRAPH))
        self.assert_said(desk, "names", "")
        for name in ("b", "ab", "a", "aa", "c", "abc"):
            self.assert_said(desk, f"one {name}", "ok")
        self.assert_said(desk, "names", "a aa ab abc b c")
        self.assert_said(desk, "drop ab", "ok")
        self.assert_said(desk, "names", "a aa abc b c")
        for name in ("a", "c", "b", "aa", "abc"):
            self.assert_said(desk, f"drop {name}", "ok")
        self.assert_said(desk, "names", "")
        self.assert_said(desk, "one ab", "ok")
        self.assert_said(desk, "names", "ab")

    def test_pieces_and_many(self):
        desk = desk_with(GRAPH, ["keep a " + ARROWS_TEXT, "seed b 0", "none n", "keep c 1 3 ; 0 ; 2", "one o"])
        self.assert_said(desk, "pieces a", "1")
        self.assert_said(desk, "pieces n", "0")
        self.assert_said(desk, "pieces c", "2")
        self.assert_said(desk, "many b a", "3")
        self.assert_said(desk, "many a b", "0")
        self.assert_said(desk, "many n a", "1")
        self.assert_said(desk, "many a o", "1")
        self.assert_said(desk, "many c a", "6")
        desk = desk_with(PLAIN, ["keep a 8"])
        self.assert_said(desk, "many a a", "16777216")
        self.assert_said(desk, "pieces a", "8")

    def test_a_number_of_very_many_figures(self):
        # More figures than Python writes at once.
        desk = desk_with(PLAIN, ["keep a 1000", "times a a a", "keep b 10", "seed c 0"])
        self.assert_said(desk, "many b a", "1" + "0" * 60)
        desk.say("keep a 5000")
        self.assert_said(desk, "many a b", "1" + "0" * 5000)
        desk.say("keep b 7")
        value = 0
        for figure in desk.say("many a b"):
            value = value * 10 + int(figure)
        self.assertEqual(value, 7 ** 5000)

    def test_maps(self):
        desk = desk_with(GRAPH, ["keep a " + ARROWS_TEXT, "seed b 0", "none n", "seed p 1"])
        self.assert_said(desk, "maps b a", "0 ; 0 1 / 1 ; 1 1 / 2 ; 1 0")
        self.assert_said(desk, "maps a b", "")
        self.assert_said(desk, "maps p a", "- ; 0 / - ; 1")
        self.assert_said(desk, "maps n n", "- ; -")
        self.assert_said(desk, "maps n a", "- ; -")
        self.assert_said(desk, "maps a n", "")
        self.assert_said(desk_with(PLAIN, ["none n"]), "maps n n", "-")

    def test_maps_pieces_and_many_in_each_pattern(self):
        for sample, world in RIGHT[1:]:
            pattern = made(sample)
            desk = desk_with(sample, ["keep a " + world_text(world)])
            told = maps(pattern, world, world)
            self.assert_said(desk, "many a a", str(many_maps(pattern, world, world)))
            self.assert_said(desk, "pieces a", str(len(pieces(pattern, world))))
            if len(told) <= 50:
                self.assert_said(desk, "maps a a", " / ".join([map_text(some) for some in told]))

    def test_just_50_maps_are_told(self):
        desk = desk_with(PLAIN_TWO, ["keep a 1 2", "keep b 2 5", "keep c 51 1", "keep d 50 1", "keep e 1 1"])
        wanted = [f"{one} ; {other} {more}" for one in range(2) for other in range(5) for more in range(5)]
        self.assert_said(desk, "maps a b", " / ".join(wanted))
        self.assert_said(desk, "maps e d", " / ".join([f"{some} ; 0" for some in range(50)]))
        before = state(desk)
        for line in ("maps e c", "maps b b", "maps a c"):
            with self.subTest(line=line):
                assert_refused(self, errors.TooMany, lambda: desk.say(line))
        self.assertEqual(state(desk), before)

    def test_alike(self):
        desk = desk_with(GRAPH, [
            "keep a " + ARROWS_TEXT, "keep b 3 2 ; 1 0 0 ; 0 0 1", "keep c 3 2 ; 0 1 1 ; 1 0 0", "none n",
        ])
        self.assert_said(desk, "alike a b", "alike 0 1 2 ; 1 0")
        self.assert_said(desk, "alike n n", "alike - ; -")
        self.assert_paper(desk, "alike b a", GRAPH)
        self.assert_paper(desk, "alike a c", GRAPH)
        self.assert_paper(desk, "alike c a", GRAPH)
        self.assert_paper(desk, "alike a n", GRAPH)
        self.assert_paper(desk, "alike n a", GRAPH)
        self.assertEqual(desk.say("alike a c").split(" ")[0], "unlike")
        self.assertEqual(desk.say("alike b a").split(" ")[0], "alike")

    def test_alike_in_each_pattern(self):
        for sample in ALL:
            worlds = [world for other, world in RIGHT if other == sample]
            worlds.extend([one_thing(made(sample)), nothing(made(sample))])
            desk = Desk(made(sample))
            for name, world in zip("abc", worlds):
                desk.say(f"keep {name} {world_text(world)}")
            for here, there in itertools.product("abc", repeat=2):
                self.assert_paper(desk, f"alike {here} {there}", sample)

    def assert_paper(self, desk, line, sample):
        pattern = made(sample)
        one, other = [world_read(pattern, desk.say(f"show {name}")) for name in line.split(" ")[1:]]
        told = desk.say(line)
        words = told.split(" ")
        with self.subTest(line=line, told=told):
            if words[0] == "alike":
                paper = ("alike", map_read(pattern, one, other, told[len("alike "):]))
            else:
                self.assertEqual(words[0], "unlike")
                paper = ("unlike", world_read(pattern, " ".join(words[3:])), int(words[1]), int(words[2]))
                self.assertEqual(words[1:3], [str(paper[2]), str(paper[3])])
            self.assertTrue(shows(pattern, one, other, paper))

    def test_a_name_in_the_stead_of_an_elder_one(self):
        desk = desk_with(GRAPH, ["seed a 0"])
        self.assert_kept(desk, "times a a a", "1 4 ; 0 ; 3")
        self.assert_kept(desk, "plus a a a", "2 8 ; 0 4 ; 3 7")
        self.assert_said(desk, "names", "a")
        self.assert_kept(desk, "one a", "1 1 ; 0 ; 0")
        self.assert_kept(desk, "power a a a", "1 1 ; 0 ; 0")
        self.assert_kept(desk, "keep a 0 2 ; - ; -", "0 2 ; - ; -")
        self.assert_kept(desk, "none a", "0 0 ; - ; -")
        self.assert_said(desk, "names", "a")

    def test_what_becomes_of_one_changes_no_other(self):
        desk = desk_with(GRAPH, ["keep a " + ARROWS_TEXT, "times b a a", "plus c a b", "power d a a"])
        before = [desk.say(f"show {name}") for name in "bcd"]
        for line in ("one a", "times a b b", "drop a", "seed a 0"):
            desk.say(line)
            with self.subTest(line=line):
                self.assertEqual([desk.say(f"show {name}") for name in "bcd"], before)
        desk.say("drop b")
        self.assertEqual([desk.say(f"show {name}") for name in "cd"], before[1:])

    def test_desks_know_nothing_of_one_another(self):
        pattern = made(GRAPH)
        here = Desk(pattern)
        there = Desk(pattern)
        here.say("one a")
        there.say("none a")
        there.say("none b")
        self.assertEqual(state(here), ["a", "1 1 ; 0 ; 0"])
        self.assertEqual(state(there), ["a b", "0 0 ; - ; -", "0 0 ; - ; -"])
        self.assertEqual(Desk(pattern).say("names"), "")

    def test_a_long_line(self):
        text = world_text(((700,), (tuple(range(700)),)))
        self.assert_kept(Desk(made(FLIP)), "keep a " + text, text)


class Refused(unittest.TestCase):
    """[92] What a desk refuses, in which order; and that it changes nothing."""

    def assert_refused(self, desk, wanted, line):
        before = state(desk)
        with self.subTest(line=line):
            assert_refused(self, wanted, lambda: desk.say(line))
            self.assertEqual(state(desk), before)

    def test_what_is_no_line(self):
        for lines in ([], ["seed a 0"], ["seed a 0", "one b", "truths c"]):
            desk = desk_with(GRAPH, lines)
            for line in NO_LINES + OTHER_THINGS:
                self.assert_refused(desk, errors.BadNote, line)

    def test_nothing_is_kept_by_the_name(self):
        desk = desk_with(GRAPH, ["seed a 0"])
        for line in NO_NAMES:
            self.assert_refused(desk, errors.NoName, line)

    def test_a_dropped_name(self):
        desk = desk_with(GRAPH, ["seed a 0", "one b", "drop b"])
        self.assert_refused(desk, errors.NoName, "drop b")
        self.assert_refused(desk, errors.NoName, "show b")
        self.assert_refused(desk, errors.NoName, "many a b")

    def test_what_is_asked_refuses(self):
        desk = desk_with(PLAIN, ["keep a 8", "keep b 6", "keep c 2", "keep d 61", "one o"])
        for line in ("power a a a", "power n b c", "power c a a", "power n o d", "maps o d", "maps b c", "maps a a"):
            self.assert_refused(desk, errors.TooMany, line)
        desk = desk_with(TURN_SIX, ["keep a 8" + " ; 0 1 2 3 4 5 6 7" * 5])
        self.assert_refused(desk, errors.TooMany, "power a a a")
        self.assert_refused(desk, errors.TooMany, "maps a a")

    def test_no_line_counts_before_no_name(self):
        desk = desk_with(GRAPH, ["seed a 0"])
        lines = (
            "show b b", "times B b b", "times b b B", "many b 1", "many b", "drop b b", "alike b b b", "power b1 b b",
        )
        for line in lines:
            self.assert_refused(desk, errors.BadNote, line)

    def test_no_line_and_no_name_count_before_what_is_asked_refuses(self):
        desk = desk_with(PLAIN, ["keep a 8"])
        self.assert_refused(desk, errors.BadNote, "power A a a")
        self.assert_refused(desk, errors.BadNote, "power a a a a")
        self.assert_refused(desk, errors.BadNote, "maps a a ")
        self.assert_refused(desk, errors.NoName, "power a a b")
        self.assert_refused(desk, errors.NoName, "power b b a")
        self.assert_refused(desk, errors.NoName, "maps a b")

    def test_behind_refusals_all_goes_on(self):
        desk = desk_with(FLIP, ["keep a " + world_text(FLIPPED)])
        for line in ("", "show b", "keep b 2 ; 0 0", "keep a 2 ; 0 0", "maps", "times a a b", None):
            with self.assertRaises(errors.MapError):
                desk.say(line)
        self.assertEqual(state(desk), ["a", "3 ; 1 0 2"])
        self.assertEqual(desk.say("keep b 2 ; 1 0"), "ok")
        self.assertEqual(desk.say("maps b a"), "0 1 / 1 0 / 2 2")


class NothingHangsOnIt(unittest.TestCase):
    """[1] What was handed in may be changed, and asked again the same is told."""

    def test_a_table_that_is_changed_later(self):
        table = dict(LOOPS[2])
        desk = Desk(Pattern(LOOPS[0], LOOPS[1], table))
        desk.say("keep a " + world_text(LOOPED))
        table.clear()
        wanted = maps(made(LOOPS), LOOPED, LOOPED)
        self.assertEqual(desk.say("maps a a"), " / ".join([map_text(some) for some in wanted]))
        self.assertEqual(desk.say("keep b " + world_text(LOOPED)), "ok")

    def test_asked_again(self):
        desk = desk_with(GRAPH, ["keep a " + ARROWS_TEXT, "seed b 0", "truths t", "keep c 3 2 ; 0 1 1 ; 1 0 0"])
        lines = ["names", "show a", "pieces a", "many b a", "maps b a", "alike a c", "alike a a", "many a t"]
        first = [desk.say(line) for line in lines]
        self.assertEqual([desk.say(line) for line in reversed(lines)], list(reversed(first)))
        self.assertEqual(desk.say("show a"), world_text(ARROWS))


if __name__ == "__main__":
    unittest.main()
