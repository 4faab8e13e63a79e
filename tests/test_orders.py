"""Points 6.1 and 6.2: rows by their numbers, and rows from a bound on and between two."""

import itertools
import unittest

from foldbough.errors import NoPlace, NoRow
from foldbough.orders import between, first_from, place_of, row_at
from foldbough.papers import fold_of, single
from tests.helps import NO_WHOLES, ODD, number_of, refused
from tests.plain import BIG, EMPTY, HAND_ROWS, NO_ROWS, ONE, hand, some_folds

NO_BOUNDS = ODD + [None, 1, "abc", [1, 7, 5], (), (1,), (1, 7), (1, 7, 5, 5)]
NO_BOUNDS += [(1, 7, thing) for thing in NO_WHOLES] + [(thing, 7, 5) for thing in NO_WHOLES]


class Numbers(unittest.TestCase):
    def test_by_hand(self):
        for number, row in enumerate(HAND_ROWS):
            self.assertEqual(row_at(hand(), number), row)
            self.assertEqual(place_of(hand(), row), number)
        self.assertEqual(row_at(fold=hand(), number=2), (4, 7, 5))
        self.assertEqual(place_of(fold=hand(), row=(4, 7, 5)), 2)

    def test_no_rows_and_the_row_of_no_columns(self):
        for fold in NO_ROWS:
            self.assertEqual(number_of(self, NoPlace, row_at, fold, 0), 0)
            self.assertIsNone(place_of(fold, (1,) * len(fold.tree())))
        fold = fold_of(EMPTY, [], ())
        self.assertEqual((row_at(fold, 0), place_of(fold, ())), ((), 0))
        self.assertEqual(number_of(self, NoPlace, row_at, fold, 1), 1)

    def test_by_chance(self):
        for chance, fold, rows in some_folds(68, 200):
            for number, row in enumerate(rows):
                self.assertEqual(row_at(fold, number), row)
                self.assertEqual(place_of(fold, row), number)
            for _ in range(20):
                row = tuple(chance.choice((-4, -3, 0, 1, 2, 10, 11)) for _ in range(len(fold.tree())))
                self.assertEqual(place_of(fold, row), rows.index(row) if row in rows else None)

    def test_no_place(self):
        for fold in NO_ROWS + [hand(), fold_of(EMPTY, [], ())]:
            for thing in NO_WHOLES + [-1, 6, 7, -6, BIG, -BIG]:
                self.assertIs(number_of(self, NoPlace, row_at, fold, thing), thing)

    def test_place_of_what_is_no_row(self):
        for fold in NO_ROWS + [hand()]:
            for thing in NO_BOUNDS + [(1, 7, 6), (2, 7, 5), (BIG, BIG, BIG)]:
                self.assertIsNone(place_of(fold, thing))
        for thing in ODD + [None, 0, "", [], (1,), ((),)]:
            self.assertIsNone(place_of(fold_of(EMPTY, [], ()), thing))
        # Truths are no values, though they are equal to 0 and 1.
        self.assertIsNone(place_of(hand(), (True, 7, 5)))
        self.assertIsNone(place_of(single(ONE, (0,)), (False,)))

    def test_of_forty_figures(self):
        fold = fold_of(ONE, [("a", [(-BIG, ()), (-1, ()), (0, ()), (BIG, ())])], (0,))
        self.assertEqual([row_at(fold, number) for number in range(4)], [(-BIG,), (-1,), (0,), (BIG,)])
        self.assertEqual([place_of(fold, (value,)) for value in (-BIG, -1, 0, BIG, 1)], [0, 1, 2, 3, None])


class Bounds(unittest.TestCase):
    def test_first_from_by_hand(self):
        told = {(0, 0, 0): 0, (1, 7, 5): 0, (1, 7, 6): 1, (1, 99, 0): 2, (2, 0, 0): 2, (4, 7, 6): 3, (4, 8, 0): 4,
                (4, 9, 6): 5}
        for bound, number in told.items():
            self.assertEqual(first_from(hand(), bound), (number, HAND_ROWS[number]))
        for bound in [(4, 9, 7), (4, 10, 0), (5, 0, 0), (BIG, -BIG, 0)]:
            self.assertIsNone(first_from(hand(), bound))
        self.assertEqual(first_from(fold=hand(), row=(2, 0, 0)), (2, (4, 7, 5)))

    def test_between_by_hand(self):
        self.assertEqual(between(hand(), (1, 7, 5), (4, 9, 6)), 6)
        self.assertEqual(between(hand(), (1, 9, 5), (4, 7, 6)), 3)
        self.assertEqual(between(hand(), (4, 7, 5), (4, 7, 5)), 1)
        self.assertEqual(between(hand(), (2, 7, 5), (2, 7, 5)), 0)
        self.assertEqual(between(hand(), (4, 7, 6), (1, 9, 5)), 0)
        self.assertEqual(between(hand(), (4, 7, 6), (4, 7, 5)), 0)
        self.assertEqual(between(fold=hand(), low=(2, 0, 0), high=(4, 8, 8)), 2)

    def test_no_rows_and_the_row_of_no_columns(self):
        for fold in NO_ROWS:
            row = (1,) * len(fold.tree())
            self.assertIsNone(first_from(fold, row))
            self.assertEqual(between(fold, row, row), 0)
        fold = fold_of(EMPTY, [], ())
        self.assertEqual((first_from(fold, ()), between(fold, (), ())), ((0, ()), 1))

    def test_by_chance(self):
        for chance, fold, rows in some_folds(69, 200):
            many = len(fold.tree())
            bounds = [tuple(chance.choice((-4, -3, 0, 1, 2, 3, 10, 11)) for _ in range(many)) for _ in range(6)]
            bounds += chance.sample(rows, min(3, len(rows)))
            for bound in bounds:
                told = [(number, row) for number, row in enumerate(rows) if row >= bound]
                self.assertEqual(first_from(fold, bound), told[0] if told else None)
            for low, high in itertools.product(bounds, bounds):
                self.assertEqual(between(fold, low, high), sum(low <= row <= high for row in rows))

    def test_of_forty_figures(self):
        fold = fold_of(ONE, [("a", [(-BIG, ()), (-1, ()), (0, ()), (BIG, ())])], (0,))
        self.assertEqual(first_from(fold, (1 - BIG,)), (1, (-1,)))
        self.assertEqual(first_from(fold, (BIG,)), (3, (BIG,)))
        self.assertEqual(between(fold, (-BIG,), (BIG - 1,)), 3)

    def test_no_bound(self):
        row = (1, 7, 5)
        for thing in NO_BOUNDS:
            self.assertEqual(number_of(self, NoRow, first_from, hand(), thing), 0)
            self.assertEqual(number_of(self, NoRow, between, hand(), thing, row), 0)
            self.assertEqual(number_of(self, NoRow, between, hand(), row, thing), 1)
            self.assertEqual(number_of(self, NoRow, between, hand(), thing, thing), 0)
        for fold in NO_ROWS[:1] + [fold_of(EMPTY, [], ())]:
            for thing in ODD + [None, 0, "", [], (1,), ((),)]:
                self.assertEqual(number_of(self, NoRow, first_from, fold, thing), 0)
                self.assertEqual(number_of(self, NoRow, between, fold, (), thing), 1)
        self.assertEqual(number_of(self, NoRow, between, NO_ROWS[1], (3,), (True,)), 1)

    def test_what_is_refused_changes_nothing(self):
        fold = hand()
        refused(self, NoPlace, row_at, fold, 6)
        refused(self, NoRow, between, fold, (1, 7, 5), 3)
        self.assertEqual(fold, hand())
        self.assertEqual(row_at(fold, 5), HAND_ROWS[5])


if __name__ == "__main__":
    unittest.main()
