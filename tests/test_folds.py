"""Points 3.1 to 3.3: what a Fold tells, how its bunches are numbered, that it is the least, and fold_of."""

import copy
import random
import unittest

from foldbough.errors import NoFold, NoRow
from foldbough.papers import fold_of, single
from foldbough.tables import Table
from foldbough.trees import Tree
from tests.helps import ANYTHING, BRITTLE, NO_NAMES, NO_WHOLES, ODD, number_of
from tests.plain import BIG, HAND_BUNCHES, HAND_ROWS, HAND_TREE, parts_of, rows_of, some_folded, some_tree

EMPTY = Tree([])
ONE = Tree([("a", None)])


def hand():
    return fold_of(HAND_TREE, HAND_BUNCHES, (0,))


def in_order(bunches, tops):
    """The numbers of the bunches as one comes to them, each once."""
    found = []

    def come_to(number):
        if number not in found:
            found.append(number)
            for _, parts in bunches[number][1]:
                for part in parts:
                    come_to(part)

    for top in tops:
        come_to(top)
    return found


class Told(unittest.TestCase):
    def test_by_hand(self):
        fold = hand()
        self.assertEqual(fold.tree(), HAND_TREE)
        self.assertEqual(fold.bunches(), HAND_BUNCHES)
        self.assertEqual(fold.tops(), (0,))
        self.assertEqual((fold.count(), fold.weight(), len(fold)), (6, 7, 4))
        self.assertEqual(str(fold), "6 rows in 4 bunches")
        for row in HAND_ROWS:
            self.assertIs(fold.has(row), True)
        for row in [(1, 7, 6), (4, 5, 5), (2, 7, 5), (5, 7, 1), (0, 0, 0), (5, 0, 0)]:
            self.assertIs(fold.has(row), False)
        self.assertIs(fold.has(row=(1, 7, 5)), True)

    def test_kinds_of_what_is_told(self):
        fold = hand()
        self.assertIs(type(fold.bunches()), list)
        for bunch in fold.bunches():
            self.assertIs(type(bunch), tuple)
            self.assertIs(type(bunch[1]), list)
            for entry in bunch[1]:
                self.assertIs(type(entry), tuple)
                self.assertIs(type(entry[1]), tuple)
        self.assertIs(type(fold.tops()), tuple)

    def test_one_row(self):
        fold = fold_of(ONE, [("a", [(3, ())])], (0,))
        self.assertEqual(str(fold), "1 rows in 1 bunches")
        self.assertEqual((fold.count(), fold.weight(), len(fold)), (1, 1, 1))

    def test_no_rows(self):
        told = [([], None), ([("a", [])], (0,)), ([("a", [(1, ())])], None), ([("a", []), ("a", [(1, ())])], (0,))]
        for bunches, tops in told:
            fold = fold_of(ONE, bunches, tops)
            self.assertEqual((fold.bunches(), fold.tops()), ([], None))
            self.assertEqual((fold.count(), fold.weight(), len(fold)), (0, 0, 0))
            self.assertEqual(str(fold), "0 rows in 0 bunches")
            self.assertIs(fold.has((1,)), False)
            self.assertEqual(fold, fold_of(ONE, [], None))

    def test_tree_without_columns(self):
        fold = fold_of(EMPTY, [], ())
        self.assertEqual((fold.bunches(), fold.tops(), fold.count(), len(fold)), ([], (), 1, 0))
        self.assertEqual((fold.has(()), str(fold)), (True, "1 rows in 0 bunches"))
        none = fold_of(EMPTY, [], None)
        self.assertEqual((none.bunches(), none.tops(), none.count(), len(none)), ([], None, 0, 0))
        self.assertEqual((none.has(()), str(none)), (False, "0 rows in 0 bunches"))
        self.assertNotEqual(fold, none)

    def test_values_of_forty_figures(self):
        fold = fold_of(ONE, [("a", [(-BIG, ()), (-1, ()), (0, ()), (BIG, ())])], (0,))
        self.assertEqual([value for value, _ in fold.bunches()[0][1]], [-BIG, -1, 0, BIG])
        self.assertIs(fold.has((BIG,)), True)
        self.assertIs(fold.has((BIG - 1,)), False)

    def test_has_refuses_what_is_no_row(self):
        for thing in ODD + [None, 1, "abc", [1, 7, 5], (), (1,), (1, 7), (1, 7, 5, 5)]:
            self.assertEqual(number_of(self, NoRow, hand().has, thing), 0)
        for thing in NO_WHOLES:
            self.assertEqual(number_of(self, NoRow, hand().has, (1, 7, thing)), 0)
            self.assertEqual(number_of(self, NoRow, hand().has, row=(thing, 7, 5)), 0)
        self.assertEqual(number_of(self, NoRow, fold_of(ONE, [], None).has, (True,)), 0)
        self.assertEqual(number_of(self, NoRow, fold_of(EMPTY, [], None).has, (1,)), 0)
        self.assertEqual(number_of(self, NoRow, fold_of(EMPTY, [], ()).has, []), 0)

    def test_equal(self):
        self.assertEqual(hand(), hand())
        others = [fold_of(HAND_TREE, HAND_BUNCHES, None), single(HAND_TREE, (1, 7, 5))]
        others.append(fold_of(Tree([("a", None), ("c", "a"), ("b", "a")]), [], None))
        others.append(Table(["a", "b", "c"], HAND_ROWS))
        for other in others + [HAND_TREE, None, 0, "6 rows in 4 bunches", HAND_ROWS, HAND_BUNCHES, (0,)]:
            self.assertIs(hand() == other, False)
            self.assertIs(hand() != other, True)
        self.assertIs(fold_of(EMPTY, [], None) == fold_of(ONE, [], None), False)
        again = Tree([("a", None), ("b", "a"), ("c", "a")])
        self.assertIs(hand() == fold_of(again, HAND_BUNCHES, (0,)), True)


class Least(unittest.TestCase):
    def test_alike_without_rows_and_come_to_by_nothing(self):
        bunches = [
            ("c", [(6, ())]),
            ("b", [(9, (5,))]),
            ("a", [(1, (1, 4)), (2, (6, 4)), (3, (3, 0)), (4, (7, 0))]),
            ("b", [(9, (8,))]),
            ("c", [(6, ())]),
            ("d", []),
            ("b", [(8, (8,)), (9, (5,))]),
            ("b", [(9, (8,))]),
            ("d", [(0, ())]),
            ("a", [(7, (3, 0))]),
            ("b", []),
        ]
        tree = Tree([("a", None), ("b", "a"), ("d", "b"), ("c", "a")])
        fold = fold_of(tree, bunches, (2,))
        told = [("a", [(2, (1, 3)), (3, (4, 3)), (4, (4, 3))]), ("b", [(8, (2,))]), ("d", [(0, ())]), ("c", [(6, ())])]
        self.assertEqual(fold.bunches(), told + [("b", [(9, (2,))])])
        self.assertEqual(fold.tops(), (0,))
        self.assertEqual(rows_of(fold.bunches(), fold.tops()), [(2, 8, 0, 6), (3, 9, 0, 6), (4, 9, 0, 6)])

    def test_numbered_as_one_comes_to_them(self):
        tree = Tree([("a", None), ("b", "a"), ("c", "b"), ("d", None)])
        bunches = [("d", [(1, ())]), ("c", [(3, ())]), ("c", [(4, ())]), ("b", [(1, (2,)), (2, (1,))])]
        bunches += [("b", [(1, (1,))]), ("a", [(1, (3,)), (2, (4,))])]
        fold = fold_of(tree, bunches, (5, 0))
        told = [("a", [(1, (1,)), (2, (4,))]), ("b", [(1, (2,)), (2, (3,))]), ("c", [(4, ())]), ("c", [(3, ())])]
        self.assertEqual(fold.bunches(), told + [("b", [(1, (3,))]), ("d", [(1, ())])])
        self.assertEqual(fold.tops(), (0, 5))

    def test_several_tops_one_without_rows(self):
        tree = Tree([("a", None), ("b", None)])
        bunches = [("b", []), ("a", [(1, ())]), ("b", [(2, ())])]
        self.assertEqual(fold_of(tree, bunches, (1, 0)), fold_of(tree, [], None))
        self.assertEqual(fold_of(tree, bunches, (1, 2)).bunches(), [("a", [(1, ())]), ("b", [(2, ())])])

    def test_things_by_chance(self):
        chance = random.Random(31)
        for _ in range(400):
            tree = some_tree(chance, 5)
            bunches, tops = some_folded(chance, tree)
            fold = fold_of(tree, bunches, tops)
            rows = rows_of(bunches, tops)
            self.assertEqual(rows_of(fold.bunches(), fold.tops()), rows)
            self.assertEqual(fold.count(), len(rows))
            self.check_least(fold, rows)
            self.check_no_more_than(fold, bunches)

    def check_least(self, fold, rows):
        """Of each column as many bunches as the rows have unlike parts, and as many entries as these have values."""
        tree, bunches = fold.tree(), fold.bunches()
        self.assertEqual(fold.tops() is None, rows == [])
        for column in tree.columns():
            parts = set(parts_of(rows, tree, column).values())
            own = [entries for name, entries in bunches if name == column]
            self.assertEqual(len(own), len(parts))
            self.assertEqual(sum(map(len, own)), sum(len({row[0] for row in part}) for part in parts))
        self.assertEqual(fold.weight(), sum(len(entries) for _, entries in bunches))
        self.assertEqual(len(fold), len(bunches))
        self.assertEqual(in_order(bunches, fold.tops() or ()), list(range(len(bunches))))
        self.assertEqual(str(fold), f"{len(rows)} rows in {len(bunches)} bunches")

    def check_no_more_than(self, fold, bunches):
        for column in fold.tree().columns():
            own = [entries for name, entries in fold.bunches() if name == column]
            told = [entries for name, entries in bunches if name == column]
            self.assertLessEqual(len(own), len(told))
            self.assertLessEqual(sum(map(len, own)), sum(map(len, told)))

    def test_has_by_chance(self):
        chance = random.Random(32)
        for _ in range(100):
            tree = some_tree(chance, 4)
            bunches, tops = some_folded(chance, tree)
            fold, rows = fold_of(tree, bunches, tops), set(rows_of(bunches, tops))
            for row in rows:
                self.assertIs(fold.has(row), True)
            for _ in range(30):
                row = tuple(chance.choice([-4, -3, 0, 1, 2, 10, 11]) for _ in range(len(tree)))
                self.assertIs(fold.has(row), row in rows)

    def test_equal_just_where_the_rows_are(self):
        chance = random.Random(33)
        tree = Tree([("a", None), ("b", "a"), ("c", "a")])
        found = {}
        for _ in range(500):
            bunches, tops = some_folded(chance, tree, (1, 2, 3))
            fold, rows = fold_of(tree, bunches, tops), tuple(rows_of(bunches, tops))
            self.assertEqual(found.setdefault(rows, fold), fold)
        folds = list(found.values())[:60]
        for at, fold in enumerate(folds):
            for other in folds[at + 1:]:
                self.assertNotEqual(fold, other)

    def test_a_fold_is_the_fold_of_itself(self):
        chance = random.Random(34)
        for _ in range(100):
            tree = some_tree(chance)
            fold = fold_of(tree, *some_folded(chance, tree))
            self.assertEqual(fold_of(tree=fold.tree(), bunches=fold.bunches(), tops=fold.tops()), fold)


class NoneSuch(unittest.TestCase):
    def refuse(self, bunches, tops, at, tree=HAND_TREE):
        self.assertEqual(number_of(self, NoFold, fold_of, tree, bunches, tops), at)

    def test_no_list(self):
        for thing in ODD + [None, 0, 3, "", "a", (), tuple(HAND_BUNCHES), {}, dict(HAND_BUNCHES)]:
            self.refuse(thing, (0,), 0)
            self.refuse(thing, None, 0)
            self.refuse(thing, 7, 0, EMPTY)

    def test_first_thing_that_is_no_bunch(self):
        b, c = HAND_BUNCHES[1], HAND_BUNCHES[2]
        things = ODD + [None, 1, "a", (), ("a",), ("a", [], ()), ["a", []], ("x", []), (None, []), ({}, [])]
        things += [(name, []) for name in NO_NAMES]
        things += [("b", thing) for thing in ODD + [None, 0, "", (), ((7, ()),), {7: ()}]]
        for thing in things:
            self.refuse([b, thing], None, 1)
            self.refuse([thing, c, thing], 3, 0)
            self.refuse([b, c, c, thing], (0,), 3)

    def test_entries(self):
        no_entries = ODD + [None, 7, "b", (), (7,), (7, (), ()), [7, ()], (7, []), (7, None), (7, 0), (7, (0,))]
        no_entries += [(thing, ()) for thing in NO_WHOLES] + [(7, thing) for thing in ODD + [None, 0, "", [], {}]]
        for thing in no_entries:
            self.refuse([("c", []), ("b", [thing])], None, 1)
            self.refuse([("b", [(1, ()), thing, (9, ())])], None, 0)

    def test_values_that_do_not_rise(self):
        for values in [(7, 7), (9, 7), (1, 2, 2), (1, 3, 2), (0, -1), (10 ** 39, 10 ** 39)]:
            self.refuse([("b", [(value, ()) for value in values])], None, 0)
        fold_of(HAND_TREE, [("b", [(-2, ()), (-1, ()), (0, ())])], None)

    def test_parts(self):
        b, c = ("b", [(7, ())]), ("c", [(5, ())])
        good = [b, c, ("a", [(1, (0, 1))])]
        self.assertEqual(fold_of(HAND_TREE, good, (2,)).count(), 1)
        for parts in [(1, 0), (0,), (0, 1, 1), (), (0, 0), (1, 1), (0, 3), (0, -2), (-3, 1), (2, 1), (0, 2), [0, 1]]:
            self.refuse([b, c, ("a", [(1, parts)])], (2,), 2)
            self.refuse([b, c, ("a", [(0, (0, 1)), (1, parts)]), ("x", [])], (2,), 2)
        for thing in NO_WHOLES:
            self.refuse([b, c, ("a", [(1, (0, thing))])], (2,), 2)
            self.refuse([b, c, ("a", [(1, (thing, 1))])], (2,), 2)
        # True is no number of a bunch, nor False.
        self.refuse([b, c, ("a", [(1, (False, True))])], (2,), 2)

    def test_parts_behind_and_of_odd_things(self):
        a, b, c = ("a", [(1, (1, 2))]), ("b", [(7, ())]), ("c", [(5, ())])
        self.assertEqual(fold_of(HAND_TREE, [a, b, c], (0,)).count(), 1)
        # What is a tuple of two with the child's column first may be a part, though it is no bunch itself.
        for entries in [None, 3, "x", (), [3], [(2, ()), (1, ())], [(1, (0,))], ANYTHING, BRITTLE]:
            self.refuse([a, b, ("c", entries)], (0,), 2)
            self.refuse([a, ("b", entries), ("c", 3)], (0,), 1)
        for thing in [None, 3, "c", "cc", ["c", []], ("c",), ("c", [], []), ("x", []), (None, []), (ANYTHING, []),
                      (BRITTLE, []), (["c"], []), ANYTHING, BRITTLE]:
            self.refuse([a, b, thing], (0,), 0)

    def test_tops(self):
        no_tops = ODD + [0, "0", [0], (), (0, 0), (1,), (4,), (-1,), (-4,), (True,), (False,), ("0",), (None,), ((0,),)]
        for thing in no_tops + [[], {}, (0.0,), (ANYTHING,), (BRITTLE,), ([],)]:
            self.refuse(HAND_BUNCHES, thing, 4)
        self.refuse([], (0,), 0)
        self.refuse([], (), 0)
        self.refuse(HAND_BUNCHES + [3], 3, 4)
        for thing in [(0,), [], {}, 0, False, "", ANYTHING, BRITTLE]:
            self.refuse([], thing, 0, EMPTY)

    def test_tree_without_columns_has_no_bunches(self):
        for thing in [("a", []), ("", []), (), None, 0, ANYTHING, BRITTLE]:
            self.refuse([thing], (), 0, EMPTY)
            self.refuse([thing], None, 0, EMPTY)

    def test_what_is_refused_changes_nothing(self):
        bunches = copy.deepcopy(HAND_BUNCHES)
        self.refuse(bunches, (9,), 4)
        self.assertEqual(bunches, HAND_BUNCHES)


class HandedIn(unittest.TestCase):
    def test_stays_as_it_is_and_is_not_kept(self):
        bunches = copy.deepcopy(HAND_BUNCHES) + [("b", []), ("c", [(5, ())])]
        told = copy.deepcopy(bunches)
        fold = fold_of(HAND_TREE, bunches, (0,))
        self.assertEqual(bunches, told)
        bunches[1][1].append((11, ()))
        bunches[0][1].clear()
        bunches.clear()
        self.assertEqual(fold, hand())
        self.assertEqual(fold.bunches(), HAND_BUNCHES)

    def test_told_lists_are_new_ones(self):
        fold = hand()
        told = fold.bunches()
        told[1][1].append((11, ()))
        told[0][1].clear()
        told.pop()
        fold.tree().columns().clear()
        self.assertEqual(fold.bunches(), HAND_BUNCHES)
        self.assertEqual((fold.count(), fold.weight(), len(fold)), (6, 7, 4))
        self.assertEqual(fold, hand())
        self.assertIsNot(fold.bunches()[1][1], fold.bunches()[1][1])


if __name__ == "__main__":
    unittest.main()
