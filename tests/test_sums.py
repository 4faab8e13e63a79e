"""Points 5.1 to 5.3: counts, roads and through, sums of products, and sums by values."""

import copy
import unittest

from foldbough.errors import NoColumn, NoColumns, NoCosts
from foldbough.papers import fold_of, single
from foldbough.sums import by, counts, product_of, roads, sum_of, sums_by, through, total
from foldbough.trees import Tree
from tests.helps import ANYTHING, BRITTLE, NO_NAMES, NO_WHOLES, ODD, name_of, refused
from tests.plain import BIG, EMPTY, NO_ROWS, ONE, hand, rows_of_bunch, some_folds, values_at

# None of these is a dict of whole numbers by tuples of a name and a whole number.
NO_WORTHS = [thing for thing in ODD if not isinstance(thing, dict)] + [{"a": 1}, None, 0, "", (), [], (("a", 1), 2)]
NO_WORTHS += [{key: 1} for key in [None, 1, "a", (), ("a",), ("a", 1, 1), (1, "a"), ("a", None), ("a", "1"),
                                   ("a", True), ("a", 1.0), ("a", (1,)), ("", 1), ("A", 1), ("abcdefghi", 1),
                                   (None, 1), (b"a", 1)]]
NO_WORTHS += [{("a", 1): thing} for thing in NO_WHOLES] + [{("a", 1): 1, ("x", 9): thing} for thing in NO_WHOLES]
NO_WORTHS += [[(("a", 1), 2)], {("a", 1): 1, 3: 1}, {("x", 1): 1, ("a", False): 1}]


def some_worths(chance, tree, values):
    """Worths of some of the columns and values, some below nought, 0 or great, and of some that stand nowhere."""
    many = chance.choice([0, 0, 3, 10, 40])
    names = tree.columns() + ["x", "zzzzzzzz"]
    keys = [(chance.choice(names), chance.choice(list(values) + [77, -BIG])) for _ in range(many)]
    return {key: chance.choice([0, 1, -1, 2, -7, BIG, -BIG, chance.randrange(-9, 9)]) for key in keys}


def plain_product(tree, row, worths):
    product = 1
    for key in zip(tree.columns(), row):
        product *= worths.get(key, 1)
    return product


class Bunches(unittest.TestCase):
    def test_by_hand(self):
        self.assertEqual(counts(hand()), [6, 2, 1, 2])
        self.assertEqual(roads(hand()), [1, 2, 1, 1])
        self.assertEqual(through(hand()), [6, 6, 2, 4])
        for call in [counts, roads, through]:
            self.assertEqual(call(fold=hand()), call(hand()))
            self.assertIs(type(call(hand())), list)

    def test_where_a_later_bunch_leads_to_one_of_a_lower_number(self):
        tree = Tree([("a", None), ("b", "a"), ("c", "b"), ("d", None)])
        bunches = [("c", [(1, ()), (2, ())]), ("b", [(1, (0,))]), ("b", [(1, (0,)), (2, (0,))]),
                   ("a", [(1, (1,)), (2, (2,)), (3, (2,))]), ("d", [(0, ()), (1, ()), (2, ())])]
        fold = fold_of(tree, bunches, (3, 4))
        self.assertEqual([column for column, _ in fold.bunches()], ["a", "b", "c", "b", "d"])
        self.assertEqual(counts(fold), [10, 2, 2, 4, 3])
        self.assertEqual(roads(fold), [1, 1, 5, 2, 1])
        self.assertEqual(through(fold), [30, 6, 30, 24, 30])

    def test_none(self):
        for fold in NO_ROWS + [fold_of(EMPTY, [], ())]:
            for call in [counts, roads, through]:
                self.assertEqual(call(fold), [])

    def test_by_chance(self):
        for _, fold, rows in some_folds(61, 150):
            tree, bunches = fold.tree(), fold.bunches()
            own = [rows_of_bunch(bunches, number) for number in range(len(bunches))]
            self.assertEqual(counts(fold), [len(told) for told in own])
            lead, go = [0] * len(bunches), [0] * len(bunches)
            for column in tree.columns():
                numbers = {tuple(own[at]): at for at in range(len(bunches)) if bunches[at][0] == column}
                parts, many = {}, {}
                for row in rows:
                    above = values_at(tree, row, tree.above(column))
                    parts.setdefault(above, set()).add(values_at(tree, row, tree.beneath(column)))
                    many[above] = many.get(above, 0) + 1
                for above, part in parts.items():
                    lead[numbers[tuple(sorted(part))]] += 1
                    go[numbers[tuple(sorted(part))]] += many[above]
            self.assertEqual(roads(fold), lead)
            self.assertEqual(through(fold), go)

    def test_told_lists_are_new_ones(self):
        fold = hand()
        for call in [counts, roads, through]:
            told = call(fold)
            again = list(told)
            told.clear()
            self.assertEqual(call(fold), again)


class Total(unittest.TestCase):
    def test_by_hand(self):
        self.assertEqual(total(hand(), {}), 6)
        worths = {("a", 1): 10, ("b", 9): -1, ("c", 6): 0, ("x", 1): 5, ("a", 7): 5}
        # 10, -10, 1, 0, -1 and 0.
        self.assertEqual(total(hand(), worths), 0)
        self.assertEqual(total(fold=hand(), worths={("a", 4): 3, ("c", 5): 7}), 14 + 2 * (21 + 3))

    def test_no_rows_and_the_row_of_no_columns(self):
        for fold in NO_ROWS:
            self.assertEqual(total(fold, {}), 0)
            self.assertEqual(total(fold, {("a", 1): 3}), 0)
        self.assertEqual(total(fold_of(EMPTY, [], ()), {}), 1)
        self.assertEqual(total(fold_of(EMPTY, [], ()), {("a", 1): 3}), 1)

    def test_of_forty_figures(self):
        self.assertEqual(total(single(ONE, (-BIG,)), {("a", -BIG): -BIG}), -BIG)
        tree = Tree([(name, None) for name in "abcdefgh"])
        fold = single(tree, (1,) * 8)
        many = total(fold, {(name, 1): -BIG for name in "abcdefgh"})
        self.assertEqual(many, BIG ** 8)
        self.assertEqual(total(fold, {("a", 1): many, ("h", 1): -many}), -many * many)

    def test_by_chance(self):
        values = (-3, 0, 1, 2, 10)
        for chance, fold, rows in some_folds(62, 200):
            worths = some_worths(chance, fold.tree(), values)
            self.assertEqual(total(fold, worths), sum(plain_product(fold.tree(), row, worths) for row in rows))

    def test_worths_for_all(self):
        for chance, fold, rows in some_folds(63, 50):
            keys = [(name, value) for name in fold.tree().columns() for value in (-3, 0, 1, 2, 10)]
            worths = {key: chance.randrange(-99, 100) for key in keys}
            self.assertEqual(total(fold, worths), sum(plain_product(fold.tree(), row, worths) for row in rows))

    def test_no_worths_whatever_the_rows(self):
        for fold in NO_ROWS + [hand(), fold_of(EMPTY, [], ())]:
            for thing in NO_WORTHS:
                refused(self, NoCosts, total, fold, thing)

    def test_handed_in_stays_as_it_is(self):
        worths = {("a", 4): 3, ("c", 5): 7}
        told = total(hand(), worths)
        self.assertEqual(worths, {("a", 4): 3, ("c", 5): 7})
        self.assertEqual(total(hand(), worths), told)


class Sums(unittest.TestCase):
    def test_by_hand(self):
        self.assertEqual([sum_of(hand(), column) for column in "abc"], [18, 48, 32])
        self.assertEqual(sum_of(fold=hand(), column="a"), 18)
        self.assertEqual(product_of(hand(), []), 6)
        self.assertEqual(product_of(hand(), ["c"]), 32)
        self.assertEqual(product_of(hand(), ["c", "a"]), 5 + 5 + 20 + 24 + 20 + 24)
        self.assertEqual(product_of(fold=hand(), columns=["a", "b", "c"]), 16 * 5 + 4 * 16 * 11)

    def test_no_rows_and_the_row_of_no_columns(self):
        for fold in NO_ROWS:
            self.assertEqual(product_of(fold, []), 0)
            for column in fold.tree().columns():
                self.assertEqual((sum_of(fold, column), product_of(fold, [column])), (0, 0))
        self.assertEqual(product_of(fold_of(EMPTY, [], ()), []), 1)

    def test_by_chance(self):
        for chance, fold, rows in some_folds(64, 200):
            tree = fold.tree()
            for at, column in enumerate(tree.columns()):
                self.assertEqual(sum_of(fold, column), sum(row[at] for row in rows))
            columns = chance.sample(tree.columns(), chance.randrange(len(tree) + 1))
            told = 0
            for row in rows:
                product = 1
                for value in values_at(tree, row, columns):
                    product *= value
                told += product
            self.assertEqual(product_of(fold, columns), told)

    def test_of_forty_figures(self):
        fold = single(Tree([(name, None) for name in "abcdefgh"]), (-BIG,) * 8)
        self.assertEqual(product_of(fold, list("habcdefg")), BIG ** 8)
        self.assertEqual(product_of(fold, list("abc")), -BIG ** 3)
        self.assertEqual(sum_of(fold, "h"), -BIG)

    def test_no_column(self):
        for fold in NO_ROWS + [hand(), fold_of(EMPTY, [], ())]:
            for thing in NO_NAMES + ["x", "ab"]:
                self.assertIs(name_of(self, NoColumn, sum_of, fold, thing), thing)
                self.assertIs(name_of(self, NoColumn, product_of, fold, [thing]), thing)
        for thing in NO_NAMES + ["x", "ab"]:
            self.assertIs(name_of(self, NoColumn, product_of, hand(), ["b", thing, "a", "y"]), thing)
            self.assertIs(name_of(self, NoColumn, product_of, hand(), ["z", thing]), "z")
            self.assertIs(name_of(self, NoColumn, product_of, hand(), [thing, "z"]), thing)
        self.assertEqual(name_of(self, NoColumn, product_of, hand(), list("abcdefghi")), "d")

    def test_no_columns_ahead_of_no_column(self):
        for fold in NO_ROWS + [hand(), fold_of(EMPTY, [], ())]:
            no_lists = [thing for thing in ODD if not isinstance(thing, list)]
            for thing in no_lists + [None, 0, "", "a", (), ("a",), {}, {"a": 1}, {"a"}]:
                refused(self, NoColumns, product_of, fold, thing)
            for twice in [["a", "a"], ["x", "a", "b", "a"], ["x", "x"], [None, "x", "a", "b", "b"],
                          ["a", ANYTHING, "a"], [1, 1], [0, 3, 0], ["a", None, None],
                          [True, "x", True], [False, False]]:
                refused(self, NoColumns, product_of, fold, twice)

    def test_things_of_any_kind_that_stand_twice(self):
        itself = []
        itself.append(itself)
        things = [thing for thing in NO_NAMES if not isinstance(thing, str)] + [2.5, 0, itself, [itself, (itself,)]]
        for fold in [NO_ROWS[1], hand(), fold_of(EMPTY, [], ())]:
            for thing in things:
                refused(self, NoColumns, product_of, fold, [thing, thing])
                refused(self, NoColumns, product_of, fold, ["x", thing, "a", BRITTLE, ANYTHING, thing])
            for twice in [[("b",), ("b",)], [["b"], ["b"]], [2.5, 5 / 2], [{"a": 1}, {"a": 1}], [{1}, {1}],
                          [b"a", b"a"], [(1, ("b", [None])), (1, ("b", [None]))], ["a", ("b",), "x", ("b",)]]:
                refused(self, NoColumns, product_of, fold, twice)

    def test_unlike_things_do_not_stand_twice(self):
        # A truth is no number, and what calls itself equal to all is none of them.
        for things in [[1, 2], [1, ANYTHING], [0, True, None, False, 1, "x", ANYTHING, BRITTLE], [None, 0], [False, 0],
                       [True, 1], [None, True], [None, False], [True, None], [True, False], ["x", ANYTHING],
                       [("b",), ("c",)], [("b",), ["b"]], [("b",), ("b", "b")], [(0,), (False,)], [2.5, 3.5],
                       [[BRITTLE], ["b"]], [{1}, {2}], [object(), object()], [b"a", "y", ("a",), ["a"], {"a"}]]:
            for told in [things, things[::-1]]:
                self.assertIs(name_of(self, NoColumn, product_of, hand(), told), told[0])
                self.assertIs(name_of(self, NoColumn, product_of, hand(), ["a"] + told), told[0])

    def test_handed_in_stays_as_it_is(self):
        columns = ["c", "a"]
        product_of(hand(), columns)
        self.assertEqual(columns, ["c", "a"])


class ByValues(unittest.TestCase):
    def test_by_hand(self):
        self.assertEqual(by(hand(), "a"), [(1, 2), (4, 4)])
        self.assertEqual(by(hand(), "b"), [(7, 3), (9, 3)])
        self.assertEqual(by(fold=hand(), column="c"), [(5, 4), (6, 2)])
        self.assertEqual(sums_by(hand(), "a", "c"), [(1, 10), (4, 22)])
        self.assertEqual(sums_by(hand(), "c", "a"), [(5, 10), (6, 8)])
        self.assertEqual(sums_by(hand(), "b", "c"), [(7, 16), (9, 16)])
        self.assertEqual(sums_by(fold=hand(), column="a", other="a"), [(1, 2), (4, 16)])

    def test_none(self):
        for fold in NO_ROWS:
            for column in fold.tree().columns():
                self.assertEqual(by(fold, column), [])
                self.assertEqual(sums_by(fold, column, column), [])

    def test_by_chance(self):
        for _, fold, rows in some_folds(65, 150):
            columns = fold.tree().columns()
            for at, column in enumerate(columns):
                many = {}
                for row in rows:
                    many[row[at]] = many.get(row[at], 0) + 1
                self.assertEqual(by(fold, column), sorted(many.items()))
                for place, other in enumerate(columns):
                    sums = {}
                    for row in rows:
                        sums[row[at]] = sums.get(row[at], 0) + row[place]
                    self.assertEqual(sums_by(fold, column, other), sorted(sums.items()))

    def test_of_forty_figures(self):
        fold = single(Tree([("a", None), ("b", "a")]), (-BIG, BIG))
        self.assertEqual(by(fold, "a"), [(-BIG, 1)])
        self.assertEqual(sums_by(fold, "a", "b"), [(-BIG, BIG)])
        self.assertEqual(sums_by(fold, "b", "a"), [(BIG, -BIG)])

    def test_no_column_the_first_one_first(self):
        for fold in NO_ROWS + [hand(), fold_of(EMPTY, [], ())]:
            for thing in NO_NAMES + ["x", "ab"]:
                self.assertIs(name_of(self, NoColumn, by, fold, thing), thing)
                self.assertIs(name_of(self, NoColumn, sums_by, fold, thing, "a"), thing)
                self.assertIs(name_of(self, NoColumn, sums_by, fold, thing, "y"), thing)
                self.assertIs(name_of(self, NoColumn, sums_by, fold, "y", thing), "y")
        for thing in NO_NAMES + ["x", "ab"]:
            self.assertIs(name_of(self, NoColumn, sums_by, hand(), "a", thing), thing)

    def test_asked_again_the_answers_are_alike(self):
        fold = hand()
        told = copy.deepcopy([by(fold, "b"), sums_by(fold, "a", "c")])
        by(fold, "b").clear()
        sums_by(fold, "a", "c").clear()
        self.assertEqual([by(fold, "b"), sums_by(fold, "a", "c")], told)
        self.assertEqual(fold, hand())


if __name__ == "__main__":
    unittest.main()
