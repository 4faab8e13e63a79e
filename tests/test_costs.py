"""Point 5.4: the least and the greatest cost of a row, and the first row that has it."""

import unittest

from foldbough.costs import greatest, least
from foldbough.errors import NoCosts
from foldbough.papers import fold_of, single
from foldbough.trees import Tree
from tests.helps import refused
from tests.plain import BIG, EMPTY, NO_ROWS, ONE, hand, some_folds
from tests.test_sums import NO_WORTHS, some_worths


def plain_cost(tree, row, costs):
    return sum(costs.get(key, 0) for key in zip(tree.columns(), row))


class Costs(unittest.TestCase):
    def test_by_hand(self):
        costs = {("a", 4): -2, ("b", 7): 3, ("c", 6): 3, ("x", 1): -100, ("a", 7): 50}
        # The rows (1, 7, 5), (1, 9, 5) and so on cost 3, 0, 1, 4, -2 and 1.
        self.assertEqual(least(hand(), costs), (-2, (4, 9, 5)))
        self.assertEqual(greatest(hand(), costs), (4, (4, 7, 6)))
        self.assertEqual(least(fold=hand(), costs={}), (0, (1, 7, 5)))
        self.assertEqual(greatest(fold=hand(), costs={}), (0, (1, 7, 5)))

    def test_the_first_row_of_like_cost(self):
        self.assertEqual(least(hand(), {("a", 1): 1}), (0, (4, 7, 5)))
        self.assertEqual(greatest(hand(), {("a", 1): -1}), (0, (4, 7, 5)))
        self.assertEqual(least(hand(), {("b", 9): -1, ("a", 1): 1, ("c", 6): -1}), (-2, (4, 9, 6)))
        self.assertEqual(greatest(hand(), {("b", 9): 1, ("c", 6): 1}), (2, (4, 9, 6)))
        self.assertEqual(greatest(hand(), {("b", 9): 1}), (1, (1, 9, 5)))

    def test_no_rows_and_the_row_of_no_columns(self):
        for fold in NO_ROWS:
            for call in [least, greatest]:
                self.assertIsNone(call(fold, {}))
                self.assertIsNone(call(fold, {("a", 1): 3}))
        for call in [least, greatest]:
            self.assertEqual(call(fold_of(EMPTY, [], ()), {}), (0, ()))
            self.assertEqual(call(fold_of(EMPTY, [], ()), {("a", 1): 3}), (0, ()))

    def test_of_forty_figures(self):
        fold = single(Tree([("a", None), ("b", "a")]), (-BIG, BIG))
        for call in [least, greatest]:
            self.assertEqual(call(fold, {("a", -BIG): -BIG, ("b", BIG): -BIG}), (-2 * BIG, (-BIG, BIG)))
            self.assertEqual(call(fold, {("a", -BIG): 2 * BIG, ("b", -BIG): BIG}), (2 * BIG, (-BIG, BIG)))

    def test_by_chance(self):
        for chance, fold, rows in some_folds(66, 300):
            costs = some_worths(chance, fold.tree(), (-3, 0, 1, 2, 10))
            told = [(plain_cost(fold.tree(), row, costs), row) for row in rows]
            if rows:
                # Of several the first one is told by min and by max.
                self.assertEqual(least(fold, costs), min(told, key=lambda pair: pair[0]))
                self.assertEqual(greatest(fold, costs), max(told, key=lambda pair: pair[0]))
            else:
                self.assertIsNone(least(fold, costs))
                self.assertIsNone(greatest(fold, costs))

    def test_many_rows_of_like_cost(self):
        for chance, fold, rows in some_folds(67, 100, 4, (1, 2, 3)):
            costs = {(name, value): chance.choice((0, 1)) for name in fold.tree().columns() for value in (1, 2, 3)}
            told = [(plain_cost(fold.tree(), row, costs), row) for row in rows]
            self.assertEqual(least(fold, costs), min(told, key=lambda pair: pair[0], default=None))
            self.assertEqual(greatest(fold, costs), max(told, key=lambda pair: pair[0], default=None))

    def test_no_costs_whatever_the_rows(self):
        for fold in NO_ROWS + [hand(), fold_of(EMPTY, [], ()), single(ONE, (1,))]:
            for thing in NO_WORTHS:
                refused(self, NoCosts, least, fold, thing)
                refused(self, NoCosts, greatest, fold, thing)

    def test_handed_in_stays_as_it_is(self):
        costs = {("a", 4): -2, ("b", 7): 3}
        told = [least(hand(), costs), greatest(hand(), costs)]
        self.assertEqual(costs, {("a", 4): -2, ("b", 7): 3})
        self.assertEqual([least(hand(), costs), greatest(hand(), costs)], told)


if __name__ == "__main__":
    unittest.main()
