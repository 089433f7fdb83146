"""The tables by which maps are counted, for promise 30."""

import itertools
import random
import unittest

from mapwright.tables import even_weight, folded, greatest_room, joined, total, without

ONE = (("a", "b"), {(0, 0): 2, (0, 1): 3, (1, 1): 5})
OTHER = (("b", "c"), {(1, 7): 10, (1, 8): 100, (2, 9): 1000})
SIZES = {"a": 2, "b": 3, "c": 3}


class Tables(unittest.TestCase):
    def test_joined_where_they_agree(self):
        self.assertEqual(joined(ONE, OTHER), (("a", "b", "c"), {
            (0, 1, 7): 30, (0, 1, 8): 300, (1, 1, 7): 50, (1, 1, 8): 500,
        }))

    def test_joined_without_a_spot_in_common(self):
        self.assertEqual(joined((("a",), {(0,): 2, (1,): 3}), (("b",), {(5,): 7})), (("a", "b"), {
            (0, 5): 14, (1, 5): 21,
        }))
        self.assertEqual(joined(ONE, ((), {(): 1})), ONE)
        self.assertEqual(joined(ONE, (("c",), {})), (("a", "b", "c"), {}))

    def test_a_spot_left_out(self):
        self.assertEqual(without(ONE, "a"), (("b",), {(0,): 2, (1,): 8}))
        self.assertEqual(without(ONE, "b"), (("a",), {(0,): 5, (1,): 5}))
        self.assertEqual(without((("a",), {(4,): 1, (5,): 2}), "a"), ((), {(): 3}))
        self.assertEqual(without((("a",), {}), "a"), ((), {}))

    def test_folded(self):
        self.assertEqual(folded([ONE], "a"), (("b",), {(0,): 2, (1,): 8}))
        told = folded([ONE, OTHER, (("b",), {(1,): 2})], "b")
        self.assertEqual(sorted(told[0]), ["a", "c"])
        values = {tuple([row[told[0].index(spot)] for spot in "ac"]): weight for row, weight in told[1].items()}
        self.assertEqual(values, {(0, 7): 60, (0, 8): 600, (1, 7): 100, (1, 8): 1000})

    def test_the_tables_stay(self):
        tables = [(ONE[0], dict(ONE[1])), (OTHER[0], dict(OTHER[1]))]
        total(tables, SIZES)
        self.assertEqual(tables, [ONE, OTHER])

    def test_the_total(self):
        self.assertEqual(total([ONE, OTHER], SIZES), 880)
        self.assertEqual(total([ONE, (("b",), {(5,): 1})], SIZES), 0)
        self.assertEqual(total([], SIZES), 1)
        self.assertEqual(total([(("a",), {(0,): 2, (1,): 3}), (("b",), {(0,): 7})], SIZES), 35)

    def test_the_total_against_a_slow_search(self):
        for spots, tables in some_tables():
            with self.subTest(tables=tables):
                sizes = dict.fromkeys(spots, 3)
                self.assertEqual(total(tables, sizes), sum(slow_weights(spots, tables).values()))

    def test_no_more_rows_come_up_than_there_is_room(self):
        for spots, tables in some_tables():
            sizes = dict.fromkeys(spots, 3)
            with self.subTest(tables=tables):
                self.assertGreaterEqual(greatest_room([table[0] for table in tables], sizes), 3)
                self.assertLessEqual(greatest_room([table[0] for table in tables], sizes), 3 ** len(spots))

    def test_the_greatest_room(self):
        self.assertEqual(greatest_room([], {}), 1)
        self.assertEqual(greatest_room([("a", "b"), ("b", "c")], SIZES), 9)
        # A circle of five is opened once, and then folded up three by three.
        circle = [(spot, (spot + 1) % 5) for spot in range(5)]
        self.assertEqual(greatest_room(circle, dict.fromkeys(range(5), 2)), 8)
        self.assertEqual(greatest_room(list(itertools.combinations(range(6), 2)), dict.fromkeys(range(6), 2)), 64)

    def test_even_tables(self):
        rows = {row: 4 for row in itertools.product(range(2), range(3))}
        self.assertEqual(even_weight((("a", "b"), rows), SIZES), 4)
        self.assertEqual(even_weight((("a", "b"), {**rows, (0, 2): 5}), SIZES), 0)
        self.assertEqual(even_weight(ONE, SIZES), 0)
        self.assertEqual(even_weight(((), {(): 9}), SIZES), 9)
        del rows[(1, 1)]
        self.assertEqual(even_weight((("a", "b"), rows), SIZES), 0)


def some_tables():
    """Spots and tables of them, the same each time the test is run."""
    chance = random.Random(30)
    told = []
    for time in range(200):
        spots = range(chance.randint(1, 5))
        tables = []
        for spot in spots:
            here = tuple(sorted(set([spot] + [chance.choice(spots) for other in range(2)])))
            rows = itertools.product(range(3), repeat=len(here))
            tables.append((here, {row: chance.randint(1, 4) for row in rows if chance.randint(0, 2)}))
        told.append((spots, tables))
    return told


def slow_weights(spots, tables):
    """The weight of each tuple of values that goes with a row of every table."""
    weights = {}
    for values in itertools.product(range(3), repeat=len(spots)):
        weight = 1
        for here, rows in tables:
            weight *= rows.get(tuple([values[spot] for spot in here]), 0)
        if weight:
            weights[values] = weight
    return weights


if __name__ == "__main__":
    unittest.main()
