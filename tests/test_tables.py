"""The tables in which maps are sought, for promise 30."""

import itertools
import random
import unittest

from mapwright.tables import cut_down, folded, joined, trimmed, unfolded, without


def times(one, other):
    return one * other


def plus(one, other):
    return one + other


ONE = (("a", "b"), {(0, 0): 2, (0, 1): 3, (1, 1): 5})
OTHER = (("b", "c"), {(1, 7): 10, (1, 8): 100, (2, 9): 1000})


class Tables(unittest.TestCase):
    def test_joined_where_they_agree(self):
        self.assertEqual(joined(ONE, OTHER, times), (("a", "b", "c"), {
            (0, 1, 7): 30, (0, 1, 8): 300, (1, 1, 7): 50, (1, 1, 8): 500,
        }))

    def test_joined_without_a_spot_in_common(self):
        self.assertEqual(joined((("a",), {(0,): 2, (1,): 3}), (("b",), {(5,): 7}), times), (("a", "b"), {
            (0, 5): 14, (1, 5): 21,
        }))
        self.assertEqual(joined(ONE, ((), {(): 1}), times), ONE)
        self.assertEqual(joined(ONE, (("c",), {}), times), (("a", "b", "c"), {}))

    def test_a_spot_left_out(self):
        self.assertEqual(without(ONE, "a", plus), (("b",), {(0,): 2, (1,): 8}))
        self.assertEqual(without(ONE, "b", plus), (("a",), {(0,): 5, (1,): 5}))
        self.assertEqual(without((("a",), {(4,): 1, (5,): 2}), "a", plus), ((), {(): 3}))
        self.assertEqual(without((("a",), {}), "a", plus), ((), {}))

    def test_rows_that_go_with_nothing_are_trimmed(self):
        last = (("c", "a"), {(7, 0): 1, (9, 1): 1})
        self.assertEqual(trimmed([ONE, OTHER, last]), [
            (("a", "b"), {(0, 1): 3}), (("b", "c"), {(1, 7): 10}), (("c", "a"), {(7, 0): 1}),
        ])
        self.assertEqual(trimmed([]), [])

    def test_the_tables_stay(self):
        tables = [(ONE[0], dict(ONE[1])), (OTHER[0], dict(OTHER[1]))]
        folded(tables, times, plus)
        trimmed(tables)
        self.assertEqual(tables, [ONE, OTHER])

    def test_folded_and_unfolded(self):
        told = folded([ONE, OTHER], times, plus)
        self.assertEqual(told[1], [880])
        found = [(values["a"], values["b"], values["c"]) for values in unfolded(told[0])]
        self.assertEqual(sorted(found), [(0, 1, 7), (0, 1, 8), (1, 1, 7), (1, 1, 8)])

    def test_folded_without_rows(self):
        self.assertEqual(folded([ONE, (("b",), {(5,): 1})], times, plus)[1], [None])
        self.assertEqual(folded([], times, plus), ([], []))
        self.assertEqual(unfolded([]), [{}])

    def test_tables_that_have_nothing_in_common_are_weighed_apart(self):
        told = folded([(("a",), {(0,): 2, (1,): 3}), (("b",), {(0,): 7})], times, plus)
        self.assertEqual(sorted(told[1]), [5, 7])
        self.assertEqual(len(unfolded(told[0])), 2)

    def test_cut_down_to_the_first_rows_by_the_order_of_spots(self):
        table = (("b", "a"), {(1, 0): 2, (0, 1): 3, (2, 0): 5})
        self.assertEqual(cut_down(table, None), table)
        self.assertEqual(cut_down(table, 3), table)
        self.assertEqual(cut_down(table, 2), (("b", "a"), {(1, 0): 2, (2, 0): 5}))
        self.assertEqual(cut_down(table, 1), (("b", "a"), {(1, 0): 2}))
        self.assertEqual(table[1], {(1, 0): 2, (0, 1): 3, (2, 0): 5})

    def test_cut_down_no_weight_is_greater_than_it_is(self):
        for spots, tables in some_tables():
            many = all_times(folded(tables, times, plus)[1])
            with self.subTest(tables=tables):
                for most in (1, 2, 5, 20):
                    self.assertLessEqual(all_times(folded(tables, times, plus, most)[1]), many)
                self.assertEqual(all_times(folded(tables, times, plus, 1000)[1]), many)

    def test_cut_down_much_is_left_where_all_goes_together(self):
        # Nine spots with two values each, each bound to each, but all rows are there.
        pairs = list(itertools.combinations(range(9), 2))
        tables = [(pair, {row: 1 for row in itertools.product(range(2), repeat=2)}) for pair in pairs]
        self.assertEqual(all_times(folded(tables, times, plus)[1]), 512)
        self.assertGreaterEqual(all_times(folded(tables, times, plus, 64)[1]), 64)

    def test_against_a_slow_search(self):
        for spots, tables in some_tables():
            told = folded(tables, times, plus)
            weights = slow_weights(spots, tables)
            with self.subTest(tables=tables):
                many = all_times(told[1])
                self.assertEqual(many, sum(weights.values()))
                if many:
                    found = [tuple([values[spot] for spot in spots]) for values in unfolded(told[0])]
                    self.assertEqual(sorted(found), sorted(weights))


def some_tables():
    """Spots and tables of them, the same each time the test is run."""
    chance = random.Random(30)
    told = []
    for time in range(200):
        spots = range(chance.randint(1, 5))
        tables = []
        for spot in spots:
            here = tuple(sorted(set([spot] + [chance.choice(spots) for other in range(2)])))
            rows = itertools.product(range(3), repeat=len(here))
            tables.append((here, {row: chance.randint(1, 4) for row in rows if chance.randint(0, 2)}))
        told.append((spots, tables))
    return told


def all_times(weights):
    """The weights of all together, None being none."""
    many = 1
    for weight in weights:
        many *= weight or 0
    return many


def slow_weights(spots, tables):
    """The weight of each tuple of values that goes with a row of every table."""
    weights = {}
    for values in itertools.product(range(3), repeat=len(spots)):
        weight = 1
        for here, rows in tables:
            weight *= rows.get(tuple([values[spot] for spot in here]), 0)
        if weight:
            weights[values] = weight
    return weights


if __name__ == "__main__":
    unittest.main()
