"""Promises 80 to 83, and 1 for sayings."""

import itertools
import random
import unittest

from mapwright import errors
from mapwright.sayings import breaks, follows, judged
from tests.kinds import assert_tuples
from tests.refusals import assert_refused

# Two arrows beside one another; a third behind both; a third ahead of both.
TWO = ((0, 1), (0, 1))
TWO_BEHIND = ((0, 1), (0, 1), (1, 2))
TWO_AHEAD = ((1, 2), (1, 2), (0, 1))
# Arrow 0, arrows 1 and 2 beside one another, arrow 3.
AROUND = ((0, 1), (1, 2), (1, 2), (2, 3))
# Two squares beside one another: 0 1 4 / 2 3 5, across and down.
SQUARES = ((0, 1), (1, 4), (0, 2), (1, 3), (4, 5), (2, 3), (3, 5))
LEFT_SQUARE = ("same", (0, 3), (2, 5))
RIGHT_SQUARE = ("same", (1, 4), (3, 6))
WHOLE = ("same", (0, 1, 4), (2, 5, 6))

HOLDING = (
    # What is given, also the other way about, and over a third way.
    (TWO, (("same", (0,), (1,)),), ((0,), (1,))),
    (TWO, (("same", (0,), (1,)),), ((1,), (0,))),
    (TWO, (("apart", 0), ("same", (1,), (0,))), ((0,), (1,))),
    (TWO + ((0, 1),), (("same", (0,), (1,)), ("same", (2,), (1,))), ((0,), (2,))),
    # Put ahead, behind, and around.
    (TWO_AHEAD, (("same", (0,), (1,)),), ((2, 0), (2, 1))),
    (TWO_BEHIND, (("same", (0,), (1,)),), ((0, 2), (1, 2))),
    (AROUND, (("same", (1,), (2,)),), ((0, 1, 3), (0, 2, 3))),
    # Taken off, also several, and what was put behind something else.
    (TWO_BEHIND, (("same", (0, 2), (1, 2)), ("apart", 2)), ((0,), (1,))),
    (TWO_BEHIND + ((2, 3),), (("apart", 3), ("same", (0, 2, 3), (1, 2, 3)), ("apart", 2)), ((0,), (1,))),
    (SQUARES, (RIGHT_SQUARE, WHOLE, ("apart", 6)), ((0, 3), (2, 5))),
    # Several behind one another.
    (SQUARES, (LEFT_SQUARE, RIGHT_SQUARE), ((0, 1, 4), (2, 5, 6))),
    (SQUARES, (LEFT_SQUARE, RIGHT_SQUARE), ((2, 5, 6), (0, 3, 6))),
    # Taken off, put behind another arrow, and taken off once more.
    (TWO_BEHIND + ((1, 3), (4, 0), (4, 0)), (
        ("same", (0, 2), (1, 2)), ("apart", 2), ("same", (4, 0, 3), (5, 1, 3)), ("apart", 3), ("apart", 1),
    ), ((4,), (5,))),
    # One way twice.
    (TWO, (), ((0,), (0,))),
    (AROUND, (("apart", 3),), ((0, 2, 3), (0, 2, 3))),
    (((7, 0),), (), ((0,), (0,))),
)

BREAKING = (
    (TWO, (), ((0,), (1,))),
    (TWO, (("apart", 0), ("apart", 1)), ((0,), (1,))),
    (TWO_BEHIND, (("same", (0, 2), (1, 2)),), ((0,), (1,))),
    (TWO_BEHIND, (("same", (0, 2), (1, 2)), ("apart", 0), ("apart", 1)), ((0,), (1,))),
    # An arrow ahead can't be taken off, apart or not.
    (TWO_AHEAD, (("same", (2, 0), (2, 1)),), ((0,), (1,))),
    (TWO_AHEAD, (("same", (2, 0), (2, 1)), ("apart", 2)), ((0,), (1,))),
    (TWO_AHEAD, (("apart", 2), ("apart", 0)), ((2, 0), (2, 1))),
    (AROUND, (("same", (0, 1, 3), (0, 2, 3)),), ((0, 1), (0, 2))),
    (SQUARES, (LEFT_SQUARE,), ((0, 1, 4), (2, 5, 6))),
    (SQUARES, (RIGHT_SQUARE, WHOLE), ((0, 3), (2, 5))),
    (SQUARES, (RIGHT_SQUARE, WHOLE, ("apart", 3), ("apart", 5)), ((0, 3), (2, 5))),
    # Sets from which and to which no arrow is.
    (((5, 7), (5, 7)), (), ((0,), (1,))),
    (((7, 5), (7, 3), (3, 5)), (("apart", 0), ("apart", 1)), ((0,), (1, 2))),
)

# Ten arrows each, of which there are 60 ways, and 61.
SIXTY = ((0, 1), (0, 1), (0, 2), (0, 3), (1, 2), (1, 2), (2, 3), (2, 3), (2, 3), (3, 4))
SIXTY_ONE = ((0, 1), (0, 1), (0, 2), (1, 2), (1, 2), (1, 4), (2, 3), (2, 3), (2, 3), (3, 4))

AIM = ((0,), (1,))
NO_SAYINGS = (
    # Wrong counts of arrows, and wrong ends.
    ((), (), ((), ())),
    ((), (), AIM),
    (((0, 1),) * 11, (), AIM),
    (((0, 1), (0, 1), (-1, 1)), (), AIM),
    (((0, 1), (0, 1), (0, -1)), (), AIM),
    (((0, 1), (0, 1), (8, 1)), (), AIM),
    (((0, 1), (0, 1), (1, 8)), (), AIM),
    # Arrows that come back.
    (((0, 1), (0, 1), (2, 2)), (), AIM),
    (((0, 1), (0, 1), (1, 0)), (), AIM),
    (((0, 1), (0, 1), (4, 5), (5, 6), (6, 4)), (), AIM),
    (((0, 1), (0, 1), (1, 2), (2, 3), (3, 4), (4, 5), (5, 6), (6, 7), (7, 1)), (), AIM),
    # What can't be given.
    (TWO, (("same", (0,), (1,)),) * 9, AIM),
    (TWO, (("apart", 0),) * 9, AIM),
    (TWO, (("apart", 2),), AIM),
    (TWO, (("apart", -1),), AIM),
    (TWO, (("apart", 0), ("same", (), ())), AIM),
    (TWO, (("same", (0,), ()),), AIM),
    (TWO, (("same", (2,), (0,)),), AIM),
    (TWO, (("same", (0,), (-1,)),), AIM),
    (TWO, (("same", (0, 1), (0, 1)),), AIM),
    (TWO_BEHIND, (("same", (2, 0), (2, 1)),), AIM),
    (TWO_BEHIND, (("same", (0,), (0, 2)),), AIM),
    (TWO_BEHIND, (("same", (2,), (0, 2)),), AIM),
    (TWO_BEHIND, (("same", (0,), (1,)), ("same", (2,), (0,))), AIM),
    # What can't be an aim.
    (TWO, (), ((), ())),
    (TWO, (), ((0,), ())),
    (TWO, (), ((0,), (2,))),
    (TWO, (), ((-1,), (1,))),
    (TWO, (), ((0, 1), (0, 1))),
    (TWO_BEHIND, (), ((2,), (0,))),
    (TWO_BEHIND, (), ((0, 2), (2,))),
    (TWO_BEHIND, (), ((0, 2), (1,))),
    # More than 60 ways, but no saying.
    (SIXTY_ONE, (), ((0,), (2,))),
    (SIXTY_ONE, (("apart", 10),), AIM),
    (SIXTY_ONE, (("same", (0,), (3,)),), AIM),
    (((0, 1),) * 5 + ((1, 2),) * 5 + ((2, 3),), (), AIM),
)


def slow_ways(ends):
    """All ways, by trying each tuple of arrows: no arrow comes twice, and no way has more than seven."""
    found = []
    for many in range(1, 8):
        longer = [way + (arrow,) for way in ([()] if many == 1 else last) for arrow in range(len(ends))]
        last = [way for way in longer if all(ends[a][1] == ends[b][0] for a, b in zip(way, way[1:]))]
        found.extend(last)
    return found


def slow_led(maps, way, thing):
    for arrow in way:
        thing = maps[arrow][thing]
    return thing


def slow_breaks(saying, sizes, maps):
    """Whether in plain sets, taken for such, all given is so and the aim isn't."""
    ends, given, aim = saying

    def same(one, other):
        things = range(sizes[ends[one[0]][0]])
        return [slow_led(maps, one, thing) for thing in things] == [slow_led(maps, other, thing) for thing in things]

    for told in given:
        if told[0] == "same" and not same(told[1], told[2]):
            return False
        if told[0] == "apart" and len(set(maps[told[1]])) < len(maps[told[1]]):
            return False
    return not same(aim[0], aim[1])


def slow_together(steps, one, other):
    """Whether one comes from one way to the other, step by step."""
    found = [one]
    for way in found:
        for step in steps:
            for here, there in ((step[0], step[1]), (step[1], step[0])):
                if here == way and there not in found:
                    found.append(there)
    return other in found


def slow_right(saying, steps, step):
    """Whether a step is right behind others, each reason tried out on all ways."""
    ends, given, aim = saying
    ways = slow_ways(ends)
    one, other, why = step
    if one not in ways or other not in ways or slow_ends(ends, one) != slow_ends(ends, other):
        return False
    if why[0] == "given":
        return why[1] in range(len(given)) and given[why[1]] == ("same", one, other)
    if why[0] == "put":
        around = [way for way in ways if why[1] + way + why[2] in (one, other)]
        return any(
            why[1] + here + why[2] == one and why[1] + there + why[2] == other and slow_together(steps, here, there)
            for here in around for there in around
        )
    longer = (one + (why[1],), other + (why[1],))
    return ("apart", why[1]) in given and all(way in ways for way in longer) and slow_together(steps, *longer)


def slow_ends(ends, way):
    return (ends[way[0]][0], ends[way[-1]][1])


def slow_follows(saying, steps):
    right = all(slow_right(saying, steps[:place], step) for place, step in enumerate(steps))
    return right and slow_together(steps, *saying[2])


def plain_sets(ends, most):
    """All plain sets with at most so many things each."""
    for sizes in itertools.product(range(most + 1), repeat=max(max(some) for some in ends) + 1):
        rows = [itertools.product(range(sizes[goal]), repeat=sizes[start]) for start, goal in ends]
        for maps in itertools.product(*rows):
            yield sizes, maps


def some_sayings():
    """Sayings of up to seven arrows, the same each time the test is run."""
    chance = random.Random(83)
    told = []
    while len(told) < 400:
        sets = chance.randint(2, 5)
        ends = tuple([tuple(sorted(chance.sample(range(sets), 2))) for arrow in range(chance.randint(2, 7))])
        ways = slow_ways(ends)
        pairs = [
            (one, other) for one in ways for other in ways
            if one != other and slow_ends(ends, one) == slow_ends(ends, other)
        ]
        if pairs and len(ways) <= 60:
            given = [("same",) + chance.choice(pairs) for same in range(chance.randint(0, 4))]
            given.extend([("apart", chance.randrange(len(ends))) for apart in range(chance.randint(0, 4))])
            chance.shuffle(given)
            told.append((ends, tuple(given), chance.choice(pairs)))
    return told


def with_step(steps, place, step):
    """Steps with another one at a place."""
    return steps[:place] + (step,) + steps[place + 1:]


class Refused(unittest.TestCase):
    """[80] What is no saying, and what has too many ways."""

    def assert_refused(self, wanted, saying):
        with self.subTest(saying=saying):
            assert_refused(self, wanted, lambda: judged(saying))
            assert_refused(self, wanted, lambda: follows(saying, ()))
            assert_refused(self, wanted, lambda: breaks(saying, (), ()))
            assert_refused(self, wanted, lambda: breaks(saying, (2, 2), ((0, 1), (1, 0))))

    def test_what_is_no_saying(self):
        for saying in NO_SAYINGS:
            self.assert_refused(errors.NoSaying, saying)

    def test_sixty_ways_are_told_of(self):
        self.assertEqual(len(slow_ways(SIXTY)), 60)
        saying = (SIXTY, (), AIM)
        told = judged(saying)
        self.assertEqual(told[0], "breaks")
        self.assertTrue(breaks(saying, told[1], told[2]))
        self.assertFalse(follows(saying, ()))
        self.assertEqual(judged((SIXTY, (("same", (0,), (1,)),), ((0, 4), (1, 4))))[0], "holds")

    def test_sixty_one_ways_are_refused(self):
        self.assertEqual(len(slow_ways(SIXTY_ONE)), 61)
        self.assert_refused(errors.TooMany, (SIXTY_ONE, (), AIM))
        self.assert_refused(errors.TooMany, (SIXTY_ONE, (("same", (0,), (1,)), ("apart", 9)), ((0,), (0,))))

    def test_many_more_ways_are_refused(self):
        doubled = tuple([(some, some + 1) for some in range(5) for time in range(2)])
        self.assert_refused(errors.TooMany, (doubled, (), AIM))

    def test_the_most_of_all_that_is_a_saying(self):
        self.assertEqual(judged((((0, 1),) * 10, (("same", (0,), (1,)),) * 8, AIM))[0], "holds")
        self.assertEqual(judged((((0, 7),) * 10, (("apart", 9),) * 8, AIM))[0], "breaks")
        chain = tuple([(some, some + 1) for some in range(7)])
        self.assertEqual(judged((chain, (), (tuple(range(7)),) * 2))[0], "holds")
        self.assertEqual(judged((((7, 6), (6, 5), (7, 5)), (("same", (0, 1), (2,)),), ((2,), (0, 1))))[0], "holds")


class Judged(unittest.TestCase):
    """[81], [82], [83] Sayings that hold are shown by steps, others broken by plain sets."""

    def assert_holds(self, saying):
        with self.subTest(saying=saying):
            told = judged(saying)
            self.assertEqual((len(told), told[0]), (2, "holds"))
            self.assert_steps(told[1])
            self.assertTrue(slow_follows(saying, told[1]))
            self.assertIs(follows(saying, told[1]), True)
            self.assertEqual(judged(saying), told)

    def assert_steps(self, steps):
        self.assertIs(type(steps), tuple)
        for step in steps:
            self.assertEqual((type(step), len(step)), (tuple, 3))
            assert_tuples(self, step[:2])
            self.assertIn((step[2][0], len(step[2])), (("given", 2), ("put", 3), ("off", 2)))
            assert_tuples(self, step[2][1:])

    def assert_breaks(self, saying):
        with self.subTest(saying=saying):
            told = judged(saying)
            self.assertEqual((len(told), told[0]), (3, "breaks"))
            sizes, maps = told[1:]
            assert_tuples(self, (sizes, maps))
            self.assertEqual(len(sizes), max(max(some) for some in saying[0]) + 1)
            self.assertEqual([len(row) for row in maps], [sizes[start] for start, goal in saying[0]])
            for row, (start, goal) in zip(maps, saying[0]):
                self.assertEqual([thing for thing in row if thing not in range(sizes[goal])], [])
            self.assertTrue(slow_breaks(saying, sizes, maps))
            self.assertIs(breaks(saying, sizes, maps), True)
            self.assertEqual(judged(saying), told)

    def test_what_holds(self):
        for saying in HOLDING:
            self.assert_holds(saying)

    def test_what_breaks(self):
        for saying in BREAKING:
            self.assert_breaks(saying)

    def test_the_aim_the_other_way_about(self):
        for saying in HOLDING:
            self.assert_holds((saying[0], saying[1], (saying[2][1], saying[2][0])))
        for saying in BREAKING:
            self.assert_breaks((saying[0], saying[1], (saying[2][1], saying[2][0])))

    def test_what_is_given_in_another_order(self):
        for saying in HOLDING:
            self.assert_holds((saying[0], tuple(reversed(saying[1])), saying[2]))
        for saying in BREAKING:
            self.assert_breaks((saying[0], tuple(reversed(saying[1])), saying[2]))

    def test_many_sayings_one_of_both(self):
        told = {"holds": 0, "breaks": 0}
        for saying in some_sayings():
            sort = judged(saying)[0]
            told[sort] += 1
            if sort == "holds":
                self.assert_holds(saying)
            else:
                self.assert_breaks(saying)
        self.assertGreater(min(told.values()), 60)

    def test_what_holds_is_broken_by_no_small_plain_sets(self):
        small = [saying for saying in some_sayings() + list(HOLDING) if len(saying[0]) <= 4]
        small = [saying for saying in small if max(max(some) for some in saying[0]) <= 3]
        for saying in [saying for saying in small if judged(saying)[0] == "holds"]:
            with self.subTest(saying=saying):
                for sizes, maps in plain_sets(saying[0], 2):
                    self.assertFalse(slow_breaks(saying, sizes, maps))

    def test_what_is_broken_by_small_plain_sets_is_judged_so(self):
        for ends in (TWO, TWO_BEHIND, TWO_AHEAD):
            ways = slow_ways(ends)
            pairs = [pair for pair in itertools.combinations(ways, 2) if slow_ends(ends, pair[0]) == slow_ends(
                ends, pair[1])]
            some = [("same",) + pair for pair in pairs] + [("apart", arrow) for arrow in range(len(ends))]
            for many in range(3):
                for given in itertools.combinations(some, many):
                    for aim in pairs:
                        saying = (ends, given, aim)
                        broken = any(slow_breaks(saying, sizes, maps) for sizes, maps in plain_sets(ends, 2))
                        with self.subTest(saying=saying):
                            self.assertEqual(judged(saying)[0], "breaks" if broken else "holds")


class Follows(unittest.TestCase):
    """[82], [83] Whether steps show a saying."""

    def assert_told(self, saying, steps, wanted):
        with self.subTest(saying=saying, steps=steps):
            self.assertIs(follows(saying, steps), wanted)
            self.assertIs(slow_follows(saying, steps), wanted)

    def test_no_steps(self):
        self.assert_told((TWO, (), ((0,), (0,))), (), True)
        self.assert_told((TWO, (("same", (0,), (1,)),), AIM), (), False)

    def test_each_reason(self):
        given = (("same", (0,), (1,)), ("apart", 2), ("same", (0, 2), (1, 2)))
        saying = (TWO_BEHIND, given, AIM)
        self.assert_told(saying, (((0,), (1,), ("given", 0)),), True)
        self.assert_told(saying, (((0, 2), (1, 2), ("given", 2)), ((0,), (1,), ("off", 2))), True)
        self.assert_told(saying, (((0, 2), (1, 2), ("given", 2)), ((1,), (0,), ("off", 2))), True)
        # By no steps at all a way is together with itself alone.
        self.assert_told((TWO_BEHIND, given, ((0, 2), (0, 2))), (((0, 2), (0, 2), ("put", (0,), ())),), True)
        self.assert_told((TWO_BEHIND, given, ((0,), (0,))), (((0,), (0,), ("off", 2)),), True)
        self.assert_told((TWO_BEHIND, given, ((0,), (0,))), (((0,), (0,), ("put", (), ())),), True)

    def test_given_at_another_place_or_the_other_way_about(self):
        saying = (TWO_BEHIND, (("same", (0,), (1,)), ("apart", 2), ("same", (1,), (0,))), AIM)
        self.assert_told(saying, (((0,), (1,), ("given", 0)),), True)
        self.assert_told(saying, (((1,), (0,), ("given", 2)),), True)
        for place in (-3, -1, 1, 2, 3):
            self.assert_told(saying, (((0,), (1,), ("given", place)),), False)
        self.assert_told(saying, (((1,), (0,), ("given", 0)),), False)
        self.assert_told(saying, (((0, 2), (1, 2), ("given", 0)), ((0,), (1,), ("given", 0))), False)

    def test_put_around(self):
        saying = (AROUND, (("same", (1,), (2,)), ("same", (0, 1), (0, 2))), ((0, 1, 3), (0, 2, 3)))
        first = ((1,), (2,), ("given", 0))
        self.assert_told(saying, (first, ((0, 1, 3), (0, 2, 3), ("put", (0,), (3,)))), True)
        self.assert_told(saying, (first, ((0, 2, 3), (0, 1, 3), ("put", (0,), (3,)))), True)
        self.assert_told(saying, (((0, 1, 3), (0, 2, 3), ("put", (0,), (3,))), first), False)
        wrong = (
            ((), ()), ((0,), ()), ((), (3,)), ((0, 1), (3,)), ((0,), (1, 3)), ((0, 1), ()), ((), (1, 3)),
            ((0, 1, 3), ()), ((), (0, 1, 3)), ((0, 1), (1, 3)), ((0, 2), (2, 3)), ((0, 1, 3), (0, 1, 3)), ((3,), (0,)),
            ((1,), (3,)), ((-4,), (3,)), ((0,), (-1,)), ((0,), (9,)), ((0, 1, 3, 0), ()),
        )
        for ahead, behind in wrong:
            self.assert_told(saying, (first, ((0, 1, 3), (0, 2, 3), ("put", ahead, behind))), False)
        nested = (first, ((0, 1), (0, 2), ("put", (0,), ())), ((0, 1, 3), (0, 2, 3), ("put", (), (3,))))
        self.assert_told(saying, nested, True)
        # With nothing put around, what is together already.
        self.assert_told(saying, nested + (((0, 2, 3), (0, 1, 3), ("put", (), ())),), True)

    def test_taken_off(self):
        given = (("same", (0, 2), (1, 2)), ("apart", 0))
        first = ((0, 2), (1, 2), ("given", 0))
        self.assert_told((TWO_BEHIND, given, AIM), (first, ((0,), (1,), ("off", 2))), False)
        for arrow in (-1, 0, 1, 3):
            self.assert_told((TWO_BEHIND, given + (("apart", 2),), AIM), (first, ((0,), (1,), ("off", arrow))), False)
        self.assert_told((TWO_BEHIND, given + (("apart", 2),), AIM), (((0,), (1,), ("off", 2)), first), False)
        self.assert_told((TWO_BEHIND, given + (("apart", 2),), AIM), (first, ((0,), (1,), ("off", 2))), True)

    def test_each_step_must_be_right_whether_it_serves_or_not(self):
        saying = (TWO_BEHIND, (("same", (0,), (1,)),), AIM)
        right = (((0,), (1,), ("given", 0)),)
        wrong = (
            ((0, 2), (1, 2), ("given", 0)), ((0, 2), (1, 2), ("off", 2)), ((0,), (2,), ("given", 0)),
            ((), (), ("put", (), ())), ((0,), (0, 2), ("put", (), ())), ((3,), (3,), ("put", (), ())),
            ((-1,), (-1,), ("put", (), ())), ((2, 0), (2, 0), ("put", (), ())), ((0, 2), (1, 2), ("put", (), ())),
        )
        for step in wrong:
            self.assert_told(saying, right + (step,), False)
            self.assert_told(saying, (step,) + right, False)
        self.assert_told(saying, right + (((0, 2), (1, 2), ("put", (), (2,))),), True)

    def test_steps_that_are_right_but_show_something_else(self):
        saying = (AROUND, (("same", (1,), (2,)),), ((0, 1, 3), (0, 2, 3)))
        self.assert_told(saying, (((1,), (2,), ("given", 0)), ((0, 1), (0, 2), ("put", (0,), ()))), False)

    def test_told_steps_changed(self):
        for saying in HOLDING:
            steps = judged(saying)[1]
            for place, step in enumerate(steps):
                self.assert_changed(saying, steps[:place] + steps[place + 1:])
                self.assert_changed(saying, steps[:place] + (step,) + steps[place:])
                self.assert_changed(saying, steps + (step,))
                self.assert_changed(saying, (step,) + steps)
                self.assert_changed(saying, with_step(steps, place, (step[1], step[0], step[2])))
                for why in (("given", 0), ("given", 9), ("off", 0), ("off", 2), ("put", (), ()), ("put", (0,), ())):
                    self.assert_changed(saying, with_step(steps, place, step[:2] + (why,)))
                for way in ((), (9,), (-1,), step[0] + step[0], step[1]):
                    self.assert_changed(saying, with_step(steps, place, (way,) + step[1:]))
                    self.assert_changed(saying, with_step(steps, place, (step[0], way, step[2])))
            self.assert_changed(saying, tuple(reversed(steps)))
            self.assert_changed(saying, steps + steps)

    def assert_changed(self, saying, steps):
        self.assert_told(saying, steps, slow_follows(saying, steps))

    def test_no_steps_show_what_breaks(self):
        for saying in BREAKING:
            for other in HOLDING:
                self.assert_told(saying, judged(other)[1], False)
            self.assert_told(saying, (), False)


class Breaks(unittest.TestCase):
    """[81], [83] Whether plain sets break a saying."""

    def test_written_out(self):
        saying = (TWO_BEHIND, (("same", (0, 2), (1, 2)), ("apart", 0)), AIM)
        right = (
            ((1, 2, 1), ((0,), (1,), (0, 0))),
            ((1, 3, 2), ((2,), (1,), (1, 0, 0))),
            ((2, 2, 1), ((0, 1), (1, 0), (0, 0))),
            ((2, 2, 1), ((0, 1), (0, 0), (0, 0))),
        )
        wrong = (
            # The aim is so; given isn't so; an arrow isn't apart; without things all is so.
            ((1, 2, 1), ((1,), (1,), (0, 0))),
            ((1, 2, 2), ((0,), (1,), (0, 1))),
            ((2, 2, 1), ((0, 0), (1, 1), (0, 0))),
            ((0, 0, 0), ((), (), ())),
            ((0, 2, 1), ((), (), (0, 0))),
            # Sizes more, less, below nought.
            ((1, 2, 1, 1), ((0,), (1,), (0, 0))),
            ((1, 2), ((0,), (1,), (0, 0))),
            ((), ()),
            ((1, 2, -1), ((0,), (1,), (0, 0))),
            ((-1, 2, 1), ((), (), (0, 0))),
            ((1, 3, 1), ((0,), (1,), (0, 0))),
            ((1, 1, 1), ((0,), (1,), (0, 0))),
            # Rows left out, put in, longer, shorter.
            ((1, 2, 1), ((0,), (1,))),
            ((1, 2, 1), ((0,), (1,), (0, 0), (0,))),
            ((1, 2, 1), ()),
            ((1, 2, 1), ((0, 1), (1,), (0, 0))),
            ((1, 2, 1), ((0,), (), (0, 0))),
            ((1, 2, 1), ((0,), (1,), (0, 0, 0))),
            ((1, 2, 1), ((0,), (1,), (0,))),
            # Numbers beyond or below nought.
            ((1, 2, 1), ((0,), (2,), (0, 0))),
            ((1, 2, 1), ((0,), (-1,), (0, 0))),
            ((1, 2, 1), ((0,), (1,), (0, -1))),
            ((1, 2, 1), ((0,), (1,), (1, 1))),
        )
        for sizes, maps in right:
            with self.subTest(sizes=sizes, maps=maps):
                self.assertIs(breaks(saying, sizes, maps), True)
        for sizes, maps in wrong:
            with self.subTest(sizes=sizes, maps=maps):
                self.assertIs(breaks(saying, sizes, maps), False)

    def test_against_a_slow_search(self):
        for saying in HOLDING + BREAKING:
            if len(saying[0]) <= 3 and max(max(some) for some in saying[0]) <= 2:
                with self.subTest(saying=saying):
                    for sizes, maps in plain_sets(saying[0], 2):
                        self.assertEqual(breaks(saying, sizes, maps), slow_breaks(saying, sizes, maps))

    def test_told_sets_of_other_sayings(self):
        for saying in HOLDING:
            for other in BREAKING:
                self.assertFalse(breaks(saying, *judged(other)[1:]))

    def test_sets_that_no_arrow_binds_may_have_things(self):
        saying = (((5, 7), (5, 7)), (), AIM)
        self.assertTrue(breaks(saying, (0, 0, 0, 0, 0, 1, 0, 2), ((0,), (1,))))
        self.assertTrue(breaks(saying, (3, 1, 4, 1, 5, 1, 2, 2), ((0,), (1,))))
        self.assertFalse(breaks(saying, (3, 1, -4, 1, 5, 1, 2, 2), ((0,), (1,))))
        self.assertFalse(breaks(saying, (1, 2), ((0,), (1,))))


class NothingHangsOnIt(unittest.TestCase):
    """[1] Asked again, in whatever order, the same is told."""

    def test_asked_again(self):
        first = [judged(saying) for saying in HOLDING + BREAKING]
        for saying in NO_SAYINGS:
            assert_refused(self, errors.NoSaying, lambda: judged(saying))
        again = [judged(saying) for saying in reversed(HOLDING + BREAKING)]
        self.assertEqual(list(reversed(again)), first)


if __name__ == "__main__":
    unittest.main()
