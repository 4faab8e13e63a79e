"""Points 7.1 to 7.5: rows kept, a column left out, folds beside each other, brought together, met and held against."""

import random
import unittest

from foldbough.algebra import beside, brought, kept, met, within, without
from foldbough.errors import NoColumn, NoColumns, NoFit, NoStretch, NoTurn
from foldbough.papers import fold_of, folded, single, unfolded
from foldbough.tables import Table, joined, kept_rows
from foldbough.trees import Tree
from tests.helps import NO_NAMES, NO_WHOLES, name_of, refused
from tests.plain import (BIG, EMPTY, HAND_ROWS, HAND_TREE, NO_ROWS, ONE, UNIT, check_fold, hand, some_folded,
                         some_folds, some_tree)

WAY = Tree([("a", None), ("b", "a"), ("c", "b")])
VALUES = (-3, 0, 1, 2, 10)


def two_folds(seed, many, most=5, values=VALUES):
    """Folds by chance, two along each tree, each with its rows."""
    chance = random.Random(seed)
    for _ in range(many):
        tree = some_tree(chance, most)
        folds = [fold_of(tree, *some_folded(chance, tree, values)) for _ in range(2)]
        if chance.randrange(4) == 0:
            folds[1] = folds[0]
        elif chance.randrange(3) == 0 and len(tree) > 0:
            # Of two alike but for some rows the one is within the other.
            folds[chance.randrange(2)] = kept(folds[0], chance.choice(tree.columns()), -BIG, chance.choice(values))
        yield chance, folds[0], folds[1], unfolded(folds[0], 10 ** 9), unfolded(folds[1], 10 ** 9)


class Kept(unittest.TestCase):
    def test_by_hand(self):
        fold = kept(hand(), "c", 6, 6)
        self.assertEqual(fold.bunches(), [("a", [(4, (1, 2))]), ("b", [(7, ()), (9, ())]), ("c", [(6, ())])])
        self.assertEqual(unfolded(fold), [(4, 7, 6), (4, 9, 6)])
        self.assertEqual(kept(fold=hand(), column="c", low=6, high=6), fold)
        self.assertEqual(unfolded(kept(hand(), "a", 2, BIG)), HAND_ROWS[2:])

    def test_all_and_none(self):
        for column in "abc":
            self.assertEqual(kept(hand(), column, -BIG, BIG), hand())
            self.assertEqual(kept(hand(), column, 8, 8), NO_ROWS[2])
            self.assertEqual(kept(NO_ROWS[2], column, -BIG, BIG), NO_ROWS[2])
        self.assertEqual(kept(hand(), "a", 1, 4), hand())
        self.assertEqual(kept(hand(), "a", 2, 3), NO_ROWS[2])
        self.assertEqual(kept(single(ONE, (BIG,)), "a", BIG, BIG), single(ONE, (BIG,)))
        self.assertEqual(kept(single(ONE, (BIG,)), "a", -BIG, BIG - 1), NO_ROWS[1])

    def test_bunches_become_alike(self):
        # Where 6 is left out both bunches of c have the same rows.
        self.assertEqual(len(kept(hand(), "c", 0, 5)), 3)

    def test_by_chance(self):
        for chance, fold, rows in some_folds(84, 150):
            for at, column in enumerate(fold.tree().columns()):
                low, high = sorted(chance.choice(VALUES + (-4, 5, 11)) for _ in range(2))
                left = [row for row in rows if low <= row[at] <= high]
                check_fold(self, kept(fold, column, low, high), fold.tree(), left)
                if len(rows) <= 300:
                    table = kept_rows(Table(fold.tree().columns(), rows), column, low, high)
                    self.assertEqual(folded(table, fold.tree()), ("fold", kept(fold, column, low, high)))

    def test_no_column_ahead_of_no_stretch(self):
        for fold in NO_ROWS + [UNIT, hand()]:
            for thing in NO_NAMES + ["x", "ab"]:
                self.assertIs(name_of(self, NoColumn, kept, fold, thing, 1, 2), thing)
                self.assertIs(name_of(self, NoColumn, kept, fold, thing, 2, 1), thing)
                self.assertIs(name_of(self, NoColumn, kept, fold, thing, thing, thing), thing)

    def test_no_stretch(self):
        for fold in [NO_ROWS[1], hand()]:
            refused(self, NoStretch, kept, fold, "a", 2, 1)
            refused(self, NoStretch, kept, fold, "a", BIG, -BIG)
            for thing in NO_WHOLES:
                refused(self, NoStretch, kept, fold, "a", thing, 2)
                refused(self, NoStretch, kept, fold, "a", 2, thing)
                refused(self, NoStretch, kept, fold, "a", thing, thing)

    def test_handed_in_stays_as_it_is(self):
        fold = hand()
        kept(fold, "c", 6, 6)
        refused(self, NoStretch, kept, fold, "c", 6, 5)
        self.assertEqual(fold, hand())
        told = kept(fold, "c", 6, 6)
        told.bunches().clear()
        self.assertEqual(told, kept(fold, "c", 6, 6))


class Without(unittest.TestCase):
    def test_by_hand(self):
        fold = without(hand(), "c")
        self.assertEqual(str(fold.tree()), "a(b)")
        self.assertEqual(fold.bunches(), [("a", [(1, (1,)), (4, (1,))]), ("b", [(7, ()), (9, ())])])
        self.assertEqual(without(fold=hand(), column="c"), fold)
        self.assertEqual(unfolded(without(fold, "b")), [(1,), (4,)])
        self.assertEqual(without(without(fold, "b"), "a"), UNIT)

    def test_one_column_and_no_rows(self):
        self.assertEqual(without(single(ONE, (5,)), "a"), UNIT)
        self.assertEqual(without(NO_ROWS[1], "a"), NO_ROWS[0])
        check_fold(self, without(NO_ROWS[2], "b"), Tree([("a", None), ("c", "a")]), [])

    def test_bunches_become_alike(self):
        fold = fold_of(WAY, [("a", [(1, (1,)), (2, (2,))]), ("b", [(1, (3,))]), ("b", [(1, (4,))]), ("c", [(5, ())]),
                             ("c", [(6, ())])], (0,))
        self.assertEqual(len(fold), 5)
        self.assertEqual(without(fold, "c").bunches(), [("a", [(1, (1,)), (2, (1,))]), ("b", [(1, ())])])

    def test_by_chance(self):
        for _, fold, rows in some_folds(85, 150):
            tree = fold.tree()
            for at, column in enumerate(tree.columns()):
                if tree.children(column):
                    self.assertEqual(name_of(self, NoTurn, without, fold, column), column)
                else:
                    rest = Tree([pair for pair in tree.pairs() if pair[0] != column])
                    left = {row[:at] + row[at + 1:] for row in rows}
                    check_fold(self, without(fold, column), rest, left)

    def test_refused(self):
        for fold in NO_ROWS + [UNIT, hand()]:
            for thing in NO_NAMES + ["x", "ab"]:
                self.assertIs(name_of(self, NoColumn, without, fold, thing), thing)
        self.assertEqual(name_of(self, NoTurn, without, hand(), "a"), "a")
        self.assertEqual(name_of(self, NoTurn, without, NO_ROWS[2], "a"), "a")


class Beside(unittest.TestCase):
    def test_by_hand(self):
        other = fold_of(Tree([("x", None), ("d", "x")]), [("x", [(0, (1,)), (1, (1,))]), ("d", [(2, ())])], (0,))
        fold = beside(hand(), other)
        self.assertEqual(str(fold.tree()), "a(b,c),x(d)")
        self.assertEqual(unfolded(fold), [row + behind for row in HAND_ROWS for behind in [(0, 2), (1, 2)]])
        self.assertEqual(fold.tops(), (0, 4))
        self.assertEqual(beside(one=hand(), other=other), fold)
        self.assertEqual(str(beside(other, hand()).tree()), "x(d),a(b,c)")

    def test_no_rows_and_no_columns(self):
        self.assertEqual(beside(UNIT, UNIT), UNIT)
        self.assertEqual(beside(UNIT, hand()), hand())
        self.assertEqual(beside(hand(), UNIT), hand())
        for one, other in [(NO_ROWS[0], hand()), (hand(), NO_ROWS[0])]:
            self.assertEqual(beside(one, other), NO_ROWS[2])
        fold = beside(NO_ROWS[1], single(Tree([("z", None)]), (1,)))
        check_fold(self, fold, Tree([("a", None), ("z", None)]), [])

    def test_by_chance(self):
        for chance, fold, rows in some_folds(86, 100, 4):
            other = some_tree(chance, 4)
            names = {name: name * 2 for name in other.columns()}
            other = Tree([(names[name], names.get(upper)) for name, upper in other.pairs()])
            behind = fold_of(other, *some_folded(chance, other))
            told = [row + more for row in rows for more in unfolded(behind, 10 ** 9)]
            if len(told) <= 2000:
                check_fold(self, beside(fold, behind), Tree(fold.tree().pairs() + other.pairs()), told)

    def test_refused(self):
        refused(self, NoColumns, beside, hand(), hand())
        refused(self, NoColumns, beside, hand(), NO_ROWS[1])
        refused(self, NoColumns, beside, NO_ROWS[2], single(ONE, (1,)))

    def test_eight_columns_and_nine(self):
        eight = Tree([(name, None) for name in "defgh"])
        fold = beside(hand(), single(eight, (1, 2, 3, 4, 5)))
        self.assertEqual(unfolded(fold), [row + (1, 2, 3, 4, 5) for row in HAND_ROWS])
        nine = Tree([(name, None) for name in "defghi"])
        refused(self, NoColumns, beside, hand(), single(nine, (0,) * 6))
        refused(self, NoColumns, beside, fold, NO_ROWS[1])


class Brought(unittest.TestCase):
    def test_by_hand(self):
        tree = Tree([("x", None), ("a", None), ("d", "a"), ("c", "a"), ("e", "d")])
        other = fold_of(tree, [("x", [(0, ()), (3, ())]), ("a", [(1, (2, 3)), (2, (2, 3)), (4, (2, 4))]),
                               ("d", [(8, (5,))]), ("c", [(5, ())]), ("c", [(6, ())]), ("e", [(9, ())])], (0, 1))
        fold = brought(hand(), other)
        self.assertEqual(str(fold.tree()), "a(b,c,d(e)),x")
        self.assertEqual(unfolded(fold), [(1, 7, 5, 8, 9, 0), (1, 7, 5, 8, 9, 3), (1, 9, 5, 8, 9, 0),
                                          (1, 9, 5, 8, 9, 3), (4, 7, 6, 8, 9, 0), (4, 7, 6, 8, 9, 3),
                                          (4, 9, 6, 8, 9, 0), (4, 9, 6, 8, 9, 3)])
        self.assertEqual(brought(one=hand(), other=other), fold)
        self.assertEqual(str(brought(other, hand()).tree()), "x,a(d(e),c,b)")

    def test_no_common_column_is_beside(self):
        other = single(Tree([("x", None), ("d", "x")]), (2, 3))
        self.assertEqual(brought(hand(), other), beside(hand(), other))
        self.assertEqual(brought(UNIT, hand()), hand())
        self.assertEqual(brought(hand(), UNIT), hand())
        self.assertEqual(brought(NO_ROWS[0], hand()), NO_ROWS[2])
        self.assertEqual(brought(UNIT, UNIT), UNIT)

    def test_all_columns_common_is_met(self):
        other = fold_of(HAND_TREE, [("a", [(4, (1, 2))]), ("b", [(7, ())]), ("c", [(6, ()), (7, ())])], (0,))
        self.assertEqual(brought(hand(), other), met(hand(), other))
        self.assertEqual(unfolded(brought(hand(), other)), [(4, 7, 6)])
        self.assertEqual(brought(hand(), hand()), hand())

    def test_columns_in_another_order(self):
        tree = Tree([("a", None), ("c", "a"), ("b", "a")])
        other = fold_of(tree, [("a", [(4, (1, 2))]), ("c", [(6, ()), (7, ())]), ("b", [(7, ())])], (0,))
        self.assertEqual(unfolded(brought(hand(), other)), [(4, 7, 6)])
        self.assertEqual(str(brought(hand(), other).tree()), "a(b,c)")
        self.assertEqual(str(brought(other, hand()).tree()), "a(c,b)")

    def test_the_upper_part_with_unlike_children(self):
        one = fold_of(WAY, [("a", [(1, (1,)), (2, (1,))]), ("b", [(3, (2,))]), ("c", [(4, ())])], (0,))
        other = fold_of(Tree([("a", None), ("x", "a"), ("b", "a"), ("y", "b")]),
                        [("a", [(1, (1, 2)), (2, (1, 3))]), ("x", [(7, ())]), ("b", [(3, (4,))]), ("b", [(0, (4,))]),
                         ("y", [(5, ()), (6, ())])], (0,))
        fold = brought(one, other)
        self.assertEqual(str(fold.tree()), "a(b(c,y),x)")
        self.assertEqual(unfolded(fold), [(1, 3, 4, 5, 7), (1, 3, 4, 6, 7)])

    def test_by_chance(self):
        shared = [0] * 6
        for chance, fold, rows in some_folds(87, 1000, 4):
            other, common = self.some_other_tree(chance, fold.tree())
            behind = fold_of(other, *some_folded(chance, other))
            more = unfolded(behind, 10 ** 9)
            if len(rows) * len(more) <= 40000:
                told = brought(fold, behind)
                self.check_tree(told.tree(), fold.tree(), other)
                plain = joined([Table(fold.tree().columns(), rows), Table(other.columns(), more)])
                check_fold(self, told, told.tree(), plain.of(told.tree().columns()).rows())
                shared[common] += len(told) > 0
        self.assertGreater(min(shared[:4]), 5)

    def some_other_tree(self, chance, tree):
        """A tree that has an upper part of the tree, its columns in any order, and further columns."""
        common = []
        for name, upper in tree.pairs():
            if (upper is None or upper in common) and chance.randrange(3) > 0:
                common.append(name)
        left = [(name, tree.over(name)) for name in common]
        for name in chance.sample(["x", "y", "z", "w"], chance.randrange(4)):
            left.append((name, chance.choice([None] + [told for told, _ in left])))
        pairs = []
        while left:
            told = [name for name, _ in pairs]
            pairs.append(chance.choice([pair for pair in left if pair[1] is None or pair[1] in told]))
            left.remove(pairs[-1])
        return Tree(pairs), len(common)

    def check_tree(self, told, one, other):
        ones, others = one.columns(), other.columns()
        self.assertEqual(set(told.columns()), set(ones) | set(others))
        for column in [None] + told.columns():
            children = one.children(column) if column is None or column in ones else []
            if column is None or column in others:
                children = children + [name for name in other.children(column) if name not in ones]
            self.assertEqual(told.children(column), children)

    def test_no_fit(self):
        for fold in [hand(), NO_ROWS[2]]:
            for pairs, one, upper in [([("c", None)], "c", "a"), ([("b", None), ("a", "b")], "a", None),
                                      ([("a", None), ("c", "a"), ("b", "c")], "b", "a"),
                                      ([("x", None), ("a", "x")], "a", None),
                                      ([("a", None), ("x", "a"), ("c", "x"), ("b", "x")], "b", "a")]:
                error = refused(self, NoFit, brought, fold, fold_of(Tree(pairs), [], None))
                self.assertEqual((error.one, error.other), (one, upper))
        one = fold_of(WAY, [], None)
        error = refused(self, NoFit, brought, one, fold_of(Tree([("c", None), ("a", "c"), ("b", "a")]), [], None))
        self.assertEqual((error.one, error.other), ("a", None))

    def test_no_fit_ahead_of_no_columns(self):
        names = [(name, None) for name in "defghi"]
        wide = fold_of(Tree([("c", None)] + names), [], None)
        error = refused(self, NoFit, brought, hand(), wide)
        self.assertEqual((error.one, error.other), ("c", "a"))
        refused(self, NoColumns, brought, hand(), fold_of(Tree([("a", None)] + names), [], None))
        refused(self, NoColumns, brought, hand(), fold_of(Tree(names), [], None))

    def test_eight_columns_together(self):
        wide = Tree([("a", None)] + [(name, "a") for name in "defgh"])
        fold = brought(hand(), single(wide, (4, 1, 2, 3, 4, 5)))
        self.assertEqual(unfolded(fold), [row + (1, 2, 3, 4, 5) for row in HAND_ROWS[2:]])

    def test_handed_in_stays_as_it_is(self):
        one, other = hand(), single(Tree([("a", None), ("x", "a")]), (4, 1))
        told = brought(one, other)
        self.assertEqual((one, other), (hand(), single(Tree([("a", None), ("x", "a")]), (4, 1))))
        self.assertEqual(brought(one, other), told)


class MetAndWithin(unittest.TestCase):
    def test_by_hand(self):
        other = fold_of(HAND_TREE, [("a", [(1, (1, 2)), (4, (1, 2)), (5, (1, 2))]), ("b", [(7, ()), (8, ())]),
                                    ("c", [(5, ())])], (0,))
        self.assertEqual(unfolded(met(hand(), other)), [(1, 7, 5), (4, 7, 5)])
        self.assertEqual(met(one=hand(), other=other), met(other, hand()))
        self.assertEqual(within(hand(), other), (1, 9, 5))
        self.assertEqual(within(one=other, other=hand()), (1, 8, 5))
        self.assertIsNone(within(met(hand(), other), hand()))
        self.assertEqual(within(hand(), single(HAND_TREE, (1, 7, 5))), (1, 9, 5))

    def test_the_first_row_by_the_order_of_all_columns(self):
        tree = Tree([("a", None), ("b", None), ("c", None)])
        one = fold_of(tree, [(name, [(1, ()), (2, ())]) for name in "abc"], (0, 1, 2))
        for at, column in enumerate("abc"):
            row = tuple(2 if place == at else 1 for place in range(3))
            self.assertEqual(within(one, kept(one, column, 1, 1)), row)
            self.assertEqual(within(one, kept(one, column, 2, 2)), (1, 1, 1))
        self.assertEqual(within(one, kept(kept(one, "a", 1, 1), "c", 1, 1)), (1, 1, 2))
        self.assertEqual(within(one, kept(kept(one, "a", 1, 1), "b", 2, 2)), (1, 1, 1))

    def test_no_rows_and_no_columns(self):
        for fold in NO_ROWS[2:]:
            self.assertEqual(met(fold, hand()), fold)
            self.assertEqual(met(hand(), fold), fold)
            self.assertIsNone(within(fold, hand()))
            self.assertEqual(within(hand(), fold), HAND_ROWS[0])
            self.assertIsNone(within(fold, fold))
        self.assertEqual(met(UNIT, UNIT), UNIT)
        self.assertEqual(met(UNIT, NO_ROWS[0]), NO_ROWS[0])
        self.assertIsNone(within(UNIT, UNIT))
        self.assertIsNone(within(NO_ROWS[0], UNIT))
        self.assertEqual(within(UNIT, NO_ROWS[0]), ())

    def test_the_same_rows(self):
        self.assertEqual(met(hand(), hand()), hand())
        self.assertIsNone(within(hand(), hand()))

    def test_by_chance(self):
        inner = 0
        for _, one, other, ones, others in two_folds(88, 400):
            tree = one.tree()
            check_fold(self, met(one, other), tree, set(ones) & set(others))
            lacked = [row for row in ones if row not in set(others)]
            self.assertEqual(within(one, other), lacked[0] if lacked else None)
            inner += not lacked and len(ones) > 0
        self.assertGreater(inner, 50)

    def test_unlike_trees(self):
        others = [ONE, EMPTY, WAY, Tree([("a", None), ("c", "a"), ("b", "a")]),
                  Tree([("a", None), ("b", None), ("c", None)]), Tree([("a", None), ("b", "a"), ("c", None)])]
        for tree in others:
            for fold in [hand(), NO_ROWS[2]]:
                other = single(tree, (1,) * len(tree))
                for call in [met, within]:
                    refused(self, NoColumns, call, fold, other)
                    refused(self, NoColumns, call, other, fold)

    def test_pairs_told_in_another_order_are_the_same_tree(self):
        tree = Tree([("a", None), ("e", None), ("b", "a")])
        alike = Tree([("a", None), ("b", "a"), ("e", None)])
        self.assertIsNone(within(single(tree, (1, 2, 3)), single(alike, (1, 2, 3))))


if __name__ == "__main__":
    unittest.main()
