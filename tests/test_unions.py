"""Points 7.6 and 7.7: folds united and taken apart, rows put in and taken out, or the mix that bars it."""

import random
import unittest

from foldbough.algebra import kept, within
from foldbough.errors import NoColumns, NoRow
from foldbough.papers import fold_of, folded, single, unfolded
from foldbough.tables import Table
from foldbough.trees import Tree
from foldbough.unions import less, put_in, took_out, united
from tests.helps import NO_WHOLES, ODD, number_of, refused
from tests.plain import (BIG, EMPTY, HAND_ROWS, HAND_TREE, NO_ROWS, ONE, UNIT, check_fold, check_one_of_both, hand,
                         is_bar)
from tests.test_algebra import two_folds

PAIR = Tree([("a", None), ("b", None)])
NO_HAND_ROWS = ODD + [None, 1, "abc", [1, 7, 5], (), (1,), (1, 7), (1, 7, 5, 5)]
NO_HAND_ROWS += [(1, 7, thing) for thing in NO_WHOLES] + [(thing, 7, 5) for thing in NO_WHOLES]


def fold_from(tree, rows):
    """The Fold of rows that fold."""
    word, fold = folded(Table(tree.columns(), rows), tree)
    assert word == "fold"
    return fold


class United(unittest.TestCase):
    def test_by_hand(self):
        other = fold_from(HAND_TREE, [(1, 7, 5), (1, 7, 8), (1, 9, 5), (1, 9, 8), (0, 1, 1)])
        told = united(hand(), other)
        self.assertEqual(told[0], "fold")
        self.assertEqual(unfolded(told[1]), sorted(HAND_ROWS + [(1, 7, 8), (1, 9, 8), (0, 1, 1)]))
        self.assertEqual(united(one=hand(), other=other), told)
        self.assertEqual(united(other, hand()), told)

    def test_mixed_by_hand(self):
        told = united(hand(), single(HAND_TREE, (1, 8, 6)))
        self.assertEqual((told[0], type(told), len(told)), ("mixed", tuple, 4))
        self.assertTrue(is_bar(HAND_TREE, set(HAND_ROWS + [(1, 8, 6)]), *told[1:]))
        self.assertIn(told[1], ["b", "c"])

    def test_no_rows_and_no_columns(self):
        for fold in [hand(), NO_ROWS[2]]:
            self.assertEqual(united(fold, NO_ROWS[2]), ("fold", fold))
            self.assertEqual(united(NO_ROWS[2], fold), ("fold", fold))
        for one in [UNIT, NO_ROWS[0]]:
            for other in [UNIT, NO_ROWS[0]]:
                self.assertEqual(united(one, other), ("fold", one if one == UNIT else other))

    def test_the_same_rows_and_one_within_the_other(self):
        self.assertEqual(united(hand(), hand()), ("fold", hand()))
        inner = kept(hand(), "c", 6, 6)
        self.assertIsNone(within(inner, hand()))
        self.assertEqual(united(inner, hand()), ("fold", hand()))
        self.assertEqual(united(hand(), inner), ("fold", hand()))

    def test_two_rows_of_tops(self):
        one = single(PAIR, (1, 1))
        self.assertEqual(united(one, single(PAIR, (1, 2))), ("fold", fold_from(PAIR, [(1, 1), (1, 2)])))
        self.assertEqual(united(one, single(PAIR, (2, 1))), ("fold", fold_from(PAIR, [(1, 1), (2, 1)])))
        told = united(one, single(PAIR, (2, 2)))
        self.assertEqual((told[0], set(told[2:])), ("mixed", {(1, 1), (2, 2)}))
        self.assertIn(told[1], ["a", "b"])

    def test_mixed_far_beneath_with_more_beside(self):
        tree = Tree([("t", None), ("a", "t"), ("b", "a"), ("c", "b"), ("d", "b"), ("e", "t"), ("f", None)])
        rows = [(1, 2, 3, 4, 5, e, f) for e in (6, 7) for f in (8, 9)]
        other = [(1, 2, 3, 0, 1, e, f) for e in (6, 7) for f in (8, 9)]
        told = united(fold_from(tree, rows), fold_from(tree, other))
        self.assertEqual(check_one_of_both(self, told, tree, rows + other), "mixed")
        self.assertIn(told[1], ["c", "d"])

    def test_by_chance(self):
        came = {"fold": 0, "mixed": 0}
        for _, one, other, ones, others in two_folds(91, 1000, 5, (0, 1, 2)):
            if len(ones) + len(others) <= 60:
                told = united(one, other)
                came[check_one_of_both(self, told, one.tree(), sorted(set(ones) | set(others)))] += 1
                self.assertEqual(united(other, one)[0], told[0])
        self.assertGreater(min(came.values()), 50)


class Less(unittest.TestCase):
    def test_by_hand(self):
        other = fold_from(HAND_TREE, [(4, 7, 6), (4, 9, 6), (4, 3, 6), (2, 7, 5)])
        told = less(hand(), other)
        self.assertEqual((told[0], unfolded(told[1])), ("fold", [(1, 7, 5), (1, 9, 5), (4, 7, 5), (4, 9, 5)]))
        self.assertEqual(less(one=hand(), other=other), told)
        self.assertEqual(unfolded(less(other, hand())[1]), [(2, 7, 5), (4, 3, 6)])

    def test_mixed_by_hand(self):
        told = less(hand(), single(HAND_TREE, (4, 7, 6)))
        self.assertEqual((told[0], set(told[2:])), ("mixed", {(4, 7, 5), (4, 9, 6)}))
        self.assertTrue(is_bar(HAND_TREE, set(HAND_ROWS) - {(4, 7, 6)}, *told[1:]))

    def test_no_rows_and_no_columns(self):
        for fold in [hand(), NO_ROWS[2]]:
            self.assertEqual(less(fold, NO_ROWS[2]), ("fold", fold))
            self.assertEqual(less(NO_ROWS[2], fold), ("fold", NO_ROWS[2]))
            self.assertEqual(less(fold, fold), ("fold", NO_ROWS[2]))
        self.assertEqual(less(UNIT, UNIT), ("fold", NO_ROWS[0]))
        self.assertEqual(less(UNIT, NO_ROWS[0]), ("fold", UNIT))
        self.assertEqual(less(NO_ROWS[0], UNIT), ("fold", NO_ROWS[0]))

    def test_one_within_the_other_and_none_in_common(self):
        inner = kept(hand(), "c", 6, 6)
        self.assertEqual(less(inner, hand()), ("fold", NO_ROWS[2]))
        self.assertEqual(unfolded(less(hand(), inner)[1]), [row for row in HAND_ROWS if row[2] == 5])
        self.assertEqual(less(hand(), kept(hand(), "a", 4, 4)), ("fold", kept(hand(), "a", 1, 1)))
        self.assertEqual(less(hand(), single(HAND_TREE, (1, 7, 6))), ("fold", hand()))
        self.assertEqual(less(hand(), single(HAND_TREE, (-BIG, BIG, 0))), ("fold", hand()))

    def test_mixed_far_beneath_with_more_beside(self):
        tree = Tree([("t", None), ("a", "t"), ("b", "a"), ("c", "b"), ("d", "b"), ("e", "t"), ("f", None)])
        rows = [(1, 2, 3, c, d, e, 8) for c in (4, 5) for d in (0, 1) for e in (6, 7)]
        other = [(1, 2, 3, 4, 1, e, f) for e in (5, 6, 7) for f in (8, 9)]
        told = less(fold_from(tree, rows), fold_from(tree, other))
        self.assertEqual(check_one_of_both(self, told, tree, sorted(set(rows) - set(other))), "mixed")
        self.assertIn(told[1], ["c", "d"])

    def test_by_chance(self):
        came = {"fold": 0, "mixed": 0}
        for _, one, other, ones, others in two_folds(92, 1500, 5, (0, 1, 2)):
            if len(ones) <= 60:
                told = less(one, other)
                came[check_one_of_both(self, told, one.tree(), sorted(set(ones) - set(others)))] += 1
        self.assertGreater(min(came.values()), 40)

    def test_what_is_taken_apart_is_united_again(self):
        for _, one, other, _, _ in two_folds(93, 200):
            told = less(one, other)
            if told[0] == "fold" and within(other, one) is None:
                self.assertEqual(united(told[1], other), ("fold", one))


class SingleRows(unittest.TestCase):
    def test_by_hand(self):
        told = put_in(hand(), (2, 3, 4))
        self.assertEqual((told[0], unfolded(told[1])), ("fold", sorted(HAND_ROWS + [(2, 3, 4)])))
        self.assertEqual(put_in(fold=hand(), row=(2, 3, 4)), told)
        self.assertEqual(took_out(told[1], (2, 3, 4)), ("fold", hand()))
        self.assertEqual(took_out(fold=told[1], row=(2, 3, 4)), ("fold", hand()))
        self.assertEqual(put_in(hand(), (4, 8, 5))[0], "mixed")
        self.assertEqual(took_out(hand(), (1, 7, 5))[0], "fold")
        self.assertEqual(took_out(hand(), (4, 7, 5))[0], "mixed")

    def test_there_already_and_not_there(self):
        for row in HAND_ROWS:
            self.assertEqual(put_in(hand(), row), ("fold", hand()))
        for row in [(1, 7, 6), (2, 7, 5), (BIG, BIG, BIG)]:
            self.assertEqual(took_out(hand(), row), ("fold", hand()))
            self.assertEqual(took_out(NO_ROWS[2], row), ("fold", NO_ROWS[2]))
            self.assertEqual(put_in(NO_ROWS[2], row), ("fold", single(HAND_TREE, row)))

    def test_one_row_and_no_columns(self):
        self.assertEqual(took_out(single(ONE, (1,)), (1,)), ("fold", NO_ROWS[1]))
        self.assertEqual(took_out(UNIT, ()), ("fold", NO_ROWS[0]))
        self.assertEqual(took_out(NO_ROWS[0], ()), ("fold", NO_ROWS[0]))
        self.assertEqual(put_in(NO_ROWS[0], ()), ("fold", UNIT))
        self.assertEqual(put_in(UNIT, ()), ("fold", UNIT))

    def test_one_after_the_other(self):
        chance = random.Random(94)
        for _ in range(60):
            tree = chance.choice([PAIR, HAND_TREE, ONE, EMPTY, Tree([("a", None), ("b", "a"), ("c", "b")])])
            fold, rows = fold_of(tree, [], None), set()
            for _ in range(30):
                row = tuple(chance.randrange(3) for _ in range(len(tree)))
                call, behind = (put_in, rows | {row}) if chance.randrange(3) else (took_out, rows - {row})
                told = call(fold, row)
                if check_one_of_both(self, told, tree, sorted(behind)) == "fold":
                    fold, rows = told[1], behind
            check_fold(self, fold, tree, rows)

    def test_no_row(self):
        for fold in [hand(), NO_ROWS[2]]:
            for thing in NO_HAND_ROWS:
                self.assertEqual(number_of(self, NoRow, put_in, fold, thing), 0)
                self.assertEqual(number_of(self, NoRow, took_out, fold, thing), 0)
        for thing in ODD + [None, 0, "", [], (1,), ((),)]:
            self.assertEqual(number_of(self, NoRow, put_in, UNIT, thing), 0)
            self.assertEqual(number_of(self, NoRow, took_out, UNIT, thing), 0)


class Trees(unittest.TestCase):
    def test_unlike_trees(self):
        others = [ONE, EMPTY, PAIR, Tree([("a", None), ("c", "a"), ("b", "a")]),
                  Tree([("a", None), ("b", None), ("c", None)]), Tree([("a", None), ("b", "a"), ("c", "b")])]
        for tree in others:
            for other in [single(tree, (1,) * len(tree)), fold_of(tree, [], None)]:
                for fold in [hand(), NO_ROWS[2]]:
                    for call in [united, less]:
                        refused(self, NoColumns, call, fold, other)
                        refused(self, NoColumns, call, other, fold)

    def test_handed_in_stays_as_it_is(self):
        one, other = hand(), single(HAND_TREE, (1, 8, 6))
        for call in [united, less]:
            told = call(one, other)
            self.assertEqual((one, other), (hand(), single(HAND_TREE, (1, 8, 6))))
            self.assertEqual(call(one, other), told)
        told = less(one, other)[1]
        told.bunches().clear()
        self.assertEqual(told, hand())


if __name__ == "__main__":
    unittest.main()
