"""Points 4.1 to 4.3: fold_join and keys_of, what they refuse, and that the answer's rows are never written out."""

import random
import unittest

from foldbough.errors import NoColumn, NoColumns, NoFit, TooMany
from foldbough.joins import check_places, fold_join, keys_of, places
from foldbough.papers import fold_of, folded, single, unfolded
from foldbough.tables import Table, joined
from foldbough.trees import Tree
from tests.helps import NO_NAMES, name_of, refused
from tests.plain import BIG, answer, some_tables, some_tree

EMPTY = Tree([])
TREE = Tree([("a", None), ("b", "a"), ("c", "b"), ("d", "b"), ("e", "a"), ("f", None)])
TABLES = [Table(["c", "a"]), Table(["b", "d"]), Table(["e"]), Table(["f"]), Table([], [()])]
FITTING = [Table(["a", "b"], [(1, 1), (1, 2), (2, 1)]), Table(["c", "b"], [(5, 1), (6, 1), (5, 2)])]


class Answer(unittest.TestCase):
    def test_by_hand(self):
        tree = Tree([("b", None), ("a", "b"), ("c", "b")])
        fold = fold_join(FITTING, tree)
        told = [("b", [(1, (1, 2)), (2, (3, 4))]), ("a", [(1, ()), (2, ())]), ("c", [(5, ()), (6, ())])]
        self.assertEqual(fold.bunches(), told + [("a", [(1, ())]), ("c", [(5, ())])])
        self.assertEqual(fold.tops(), (0,))
        self.assertEqual(unfolded(fold), [(1, 1, 5), (1, 1, 6), (1, 2, 5), (1, 2, 6), (2, 1, 5)])
        self.assertEqual(fold_join(tables=FITTING, tree=tree), fold)

    def test_no_tables(self):
        self.assertEqual(fold_join([], EMPTY), fold_of(EMPTY, [], ()))

    def test_tables_without_columns(self):
        one, none = Table([], [()]), Table([])
        self.assertEqual(fold_join([one], EMPTY), fold_of(EMPTY, [], ()))
        self.assertEqual(fold_join([none], EMPTY), fold_of(EMPTY, [], None))
        self.assertEqual(fold_join([one, none, one], EMPTY), fold_of(EMPTY, [], None))
        tree = Tree([("a", None)])
        table = Table(["a"], [(1,), (3,)])
        self.assertEqual(unfolded(fold_join([table, one], tree)), [(1,), (3,)])
        self.assertEqual(fold_join([table, none], tree), fold_of(tree, [], None))

    def test_a_table_without_rows(self):
        tree = Tree([("a", None), ("b", None)])
        self.assertEqual(fold_join([Table(["a"], [(1,)]), Table(["b"])], tree), fold_of(tree, [], None))

    def test_a_table_told_twice(self):
        tree = Tree([("b", None), ("a", "b"), ("c", "b")])
        self.assertEqual(fold_join(FITTING * 3, tree), fold_join(FITTING, tree))

    def test_one_table_along_its_way(self):
        table = Table(["b", "a"], [(BIG, -1), (-BIG, -1), (0, 0), (0, -BIG)])
        tree = Tree([("a", None), ("b", "a")])
        self.assertEqual(("fold", fold_join([table], tree)), folded(table, tree))
        self.assertEqual(unfolded(fold_join([table], tree)), [(-BIG, 0), (-1, -BIG), (-1, BIG), (0, 0)])

    def test_single_row(self):
        tree = Tree([("a", None), ("b", "a"), ("c", "a")])
        tables = [Table(["a", "b"], [(1, 2), (3, 3)]), Table(["c", "a"], [(4, 1)])]
        self.assertEqual(fold_join(tables, tree), single(tree, (1, 2, 4)))

    def test_by_chance(self):
        chance = random.Random(51)
        full = 0
        for _ in range(300):
            tree = some_tree(chance, 5)
            tables = some_tables(chance, tree)[:6]
            if {name for table in tables for name in table.columns()} != set(tree.columns()):
                continue
            fold = fold_join(tables, tree)
            rows = answer(tables, tree)
            self.assertEqual(unfolded(fold, 10 ** 9), rows)
            self.assertEqual(fold_of(tree, fold.bunches(), fold.tops()), fold)
            full += len(rows) > 3
            if len(rows) <= 300:
                self.assertEqual(joined(tables).of(tree.columns()).rows(), rows)
                self.assertEqual(folded(Table(tree.columns(), rows), tree), ("fold", fold))
        self.assertGreater(full, 100)

    def test_sparse_tables_by_chance(self):
        chance = random.Random(52)
        for _ in range(200):
            tree = some_tree(chance, 6)
            tables = some_tables(chance, tree, (0, 1), 2)
            self.assertEqual(unfolded(fold_join(tables, tree), 10 ** 9), answer(tables, tree))

    def test_very_many_rows(self):
        # Each of eight columns has forty values, whatever the others are.
        tree = Tree([(name, None) for name in "abcdefgh"])
        tables = [Table([name], [(value,) for value in range(40)]) for name in "abcdefgh"]
        fold = fold_join(tables, tree)
        self.assertEqual((fold.count(), len(fold), fold.weight()), (40 ** 8, 8, 320))
        self.assertIs(fold.has((39,) * 8), True)
        self.assertIs(fold.has((39,) * 7 + (40,)), False)
        self.assertEqual(refused(self, TooMany, unfolded, fold).many, 40 ** 8)

    def test_handed_in_stays_as_it_is(self):
        tree, tables = Tree([("b", None), ("a", "b"), ("c", "b")]), list(FITTING)
        fold = fold_join(tables, tree)
        places(tables, tree)
        keys_of(tables, tree, "a")
        self.assertEqual(tables, FITTING)
        tables.clear()
        self.assertEqual(fold, fold_join(FITTING, tree))


class Keys(unittest.TestCase):
    def test_by_hand(self):
        told = {"a": [], "b": ["a"], "c": ["a"], "d": ["b"], "e": [], "f": []}
        for column in TREE.columns():
            self.assertEqual(keys_of(TABLES, TREE, column), told[column])
        self.assertEqual(keys_of(tables=TABLES, tree=TREE, column="c"), ["a"])
        self.assertEqual(keys_of(TABLES + [Table(["d", "a"])], TREE, "d"), ["a", "b"])

    def test_from_the_top_down(self):
        tree = Tree([("z", None), ("m", "z"), ("a", "m"), ("k", "a")])
        self.assertEqual(keys_of([Table(["k", "a", "z", "m"])], tree, "k"), ["z", "m", "a"])
        self.assertEqual(keys_of([Table(["k", "z"]), Table(["m"]), Table(["a"])], tree, "a"), ["z"])
        self.assertEqual(keys_of([Table(["k", "z"]), Table(["m"]), Table(["a"])], tree, "m"), ["z"])

    def test_by_chance(self):
        chance = random.Random(53)
        for _ in range(100):
            tree = some_tree(chance)
            tables = some_tables(chance, tree)
            for column in tree.columns():
                beneath = tree.beneath(column)
                near = [set(table.columns()) for table in tables if set(beneath) & set(table.columns())]
                told = [name for name in tree.above(column) if any(name in columns for columns in near)]
                self.assertEqual(keys_of(tables, tree, column), told)

    def test_told_lists_are_new_ones(self):
        told = keys_of(TABLES, TREE, "c")
        told.append("x")
        self.assertEqual(keys_of(TABLES, TREE, "c"), ["a"])

    def test_no_column(self):
        for thing in NO_NAMES + ["x", "ab"]:
            self.assertIs(name_of(self, NoColumn, keys_of, TABLES, TREE, thing), thing)
        self.assertEqual(name_of(self, NoColumn, keys_of, [], EMPTY, "a"), "a")


class Refused(unittest.TestCase):
    def calls(self):
        fold = fold_of(EMPTY, [], ())
        return [fold_join, places, lambda tables, tree: keys_of(tables, tree, "x"),
                lambda tables, tree: keys_of(tables, tree, None),
                lambda tables, tree: check_places(tables, tree, fold, 3)]

    def test_no_columns_ahead_of_all(self):
        apart = Tree([("a", None), ("b", None), ("c", None)])
        tables = [[], [Table(["a", "b"])], [Table(["a", "b"]), Table(["c", "d"])], [Table([])], [Table(["x"])]]
        for call in self.calls():
            for told in tables:
                refused(self, NoColumns, call, told, apart)
            refused(self, NoColumns, call, [Table(["a"])], EMPTY)

    def test_then_no_fit(self):
        apart = Tree([("a", None), ("b", "a"), ("c", "a"), ("d", None)])
        for call in self.calls():
            for columns, pair in [("abcd", ("a", "d")), ("cb", ("c", "b")), ("dcba", ("d", "c")), ("acb", ("c", "b"))]:
                tables = [Table(["a", "b"]), Table(["c", "a"]), Table(["d"]), Table(list(columns)), Table(["d", "a"])]
                error = refused(self, NoFit, call, tables, apart)
                self.assertEqual((error.one, error.other), pair)

    def test_no_fit_ahead_of_too_many(self):
        tree = Tree([("a", None), ("b", "a"), ("c", "b")])
        many = Table(["a", "b"], [(k, j) for k in range(17) for j in range(17)])
        apart = Tree([("a", None), ("b", "a"), ("c", None)])
        for call in [fold_join, places]:
            refused(self, NoFit, call, [many, Table(["b", "c"])], apart)
            refused(self, NoColumns, call, [many], tree)


class FourHundredPlaces(unittest.TestCase):
    TREE = Tree([("a", None), ("b", "a"), ("c", "b")])

    def tables(self, ones, others, value=1):
        """Tables of at most forty rows by which 1 + ones + ones * others places come."""
        first = Table(["c", "a"], [(1, k) for k in range(ones)])
        return [first, Table(["b", "c"], [(k, value) for k in range(others)])]

    def test_just_four_hundred(self):
        for ones, others in [(19, 20), (21, 18)]:
            self.assertEqual(fold_join(self.tables(ones, others), self.TREE).count(), ones * others)
            self.assertEqual(len(places(self.tables(ones, others), self.TREE)), 400)

    def test_one_more(self):
        for ones, others in [(20, 19), (40, 9), (16, 24), (40, 40)]:
            for call in [fold_join, places]:
                self.assertEqual(refused(self, TooMany, call, self.tables(ones, others), self.TREE).many, 400)

    def test_whatever_has_rows(self):
        # No value may stand at any place of c, and still all of them come.
        told = places(self.tables(19, 20, 2), self.TREE)
        self.assertEqual((len(told), {number for _, _, number in told}), (400, {None}))
        for tables in [self.tables(20, 19, 2), self.tables(20, 19) + [Table([])], [Table([])] + self.tables(20, 19, 2)]:
            for call in [fold_join, places]:
                self.assertEqual(refused(self, TooMany, call, tables, self.TREE).many, 400)

    def test_where_another_top_has_no_rows(self):
        tree = Tree([("a", None), ("b", "a"), ("c", "b"), ("d", None)])
        for call in [fold_join, places]:
            # The place of d comes, too.
            error = refused(self, TooMany, call, self.tables(19, 20) + [Table(["d"])], tree)
            self.assertEqual(error.many, 400)
            call(self.tables(19, 19) + [Table(["d"])], tree)

    def test_keys_and_papers_are_not_refused(self):
        tables = self.tables(20, 19)
        self.assertEqual(keys_of(tables, self.TREE, "c"), ["a", "b"])
        self.assertIs(check_places(tables, self.TREE, fold_of(self.TREE, [], None), []), False)


if __name__ == "__main__":
    unittest.main()
