"""Point 8.5: lightest, held against lifting by hand, the first column that can be lifted each time."""

import unittest

from foldbough.errors import NoTurn
from foldbough.lightest import lightest
from foldbough.papers import fold_of, single, unfolded
from foldbough.trees import Tree
from foldbough.turns import lifted
from tests.helps import name_of
from tests.plain import BIG, HAND_TREE, NO_ROWS, ONE, UNIT, along, check_fold, hand, is_bar
from tests.test_turns import TREE, forest_of, plain_lifted, some_small_folds, tree_from


def plain_lightest(fold):
    while True:
        for column in fold.tree().columns():
            if fold.tree().over(column) is not None and lifted(fold, column)[0] == "fold":
                fold = lifted(fold, column)[1]
                break
        else:
            return fold


class Lightest(unittest.TestCase):
    def test_by_hand(self):
        fold, bars = lightest(hand())
        self.assertEqual(str(fold.tree()), "a(c),b")
        self.assertEqual(fold, lifted(hand(), "b")[1])
        self.assertEqual(bars, [lifted(fold, "c")])
        self.assertEqual(lightest(fold=hand()), (fold, bars))
        self.assertIs(type(lightest(hand())), tuple)
        self.assertIs(type(bars), list)

    def test_no_rows_one_row_and_no_columns(self):
        self.assertEqual(lightest(UNIT), (UNIT, []))
        self.assertEqual(lightest(NO_ROWS[0]), (NO_ROWS[0], []))
        self.assertEqual(lightest(NO_ROWS[1]), (NO_ROWS[1], []))
        self.assertEqual(lightest(single(ONE, (BIG,))), (single(ONE, (BIG,)), []))
        for rows in [fold_of(TREE, [], None), single(TREE, (1, 2, 3, 4, 5, 6, 7))]:
            fold, bars = lightest(rows)
            # b comes behind a, then c behind a, d and e behind b, and g behind f.
            self.assertEqual((str(fold.tree()), bars), ("a,c,b,e,d,f,g", []))

    def test_each_time_the_first_column_that_can_be_lifted(self):
        # Just c can be lifted, twice, and b never.
        tree = Tree([("a", None), ("b", "a"), ("c", "b")])
        fold = fold_of(tree, [("a", [(1, (1,)), (2, (2,))]), ("b", [(1, (3,))]), ("b", [(2, (3,))]),
                              ("c", [(5, ()), (6, ())])], (0,))
        told, bars = lightest(fold)
        self.assertEqual(str(told.tree()), "a(b),c")
        self.assertEqual([bar[:2] for bar in bars], [("mixed", "b")])

    def test_by_chance(self):
        barred = 0
        for _, fold, rows in some_small_folds(106, 600):
            told, bars = lightest(fold)
            tree = told.tree()
            self.assertEqual(told, plain_lightest(fold))
            self.assertEqual(str(tree), str(plain_lightest(fold).tree()))
            check_fold(self, told, tree, along(rows, fold.tree(), tree))
            lower = [column for column in tree.columns() if tree.over(column) is not None]
            self.assertEqual([bar[:2] for bar in bars], [("mixed", column) for column in lower])
            for column, bar in zip(lower, bars):
                self.assertEqual(bar, lifted(told, column))
                other = tree_from(plain_lifted(forest_of(tree), column))
                self.assertTrue(is_bar(other, set(along(rows, fold.tree(), other)), *bar[1:]))
            self.assertLessEqual(len(told), len(fold))
            self.assertEqual(lightest(told), (told, bars))
            barred += len(bars)
        self.assertGreater(barred, 100)

    def test_told_lists_are_new_ones(self):
        fold = hand()
        lightest(fold)[1].clear()
        lightest(fold)[0].bunches().clear()
        self.assertEqual(len(lightest(fold)[1]), 1)
        self.assertEqual((fold, unfolded(fold)), (hand(), unfolded(fold_of(HAND_TREE, hand().bunches(), (0,)))))
        self.assertEqual(name_of(self, NoTurn, lifted, lightest(fold)[0], "b"), "b")


if __name__ == "__main__":
    unittest.main()
