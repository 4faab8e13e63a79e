"""Points 8.1 to 8.4: columns swung, lifted and lowered, and whole folds turned to other trees."""

import itertools
import unittest
import unittest.mock

from foldbough.errors import NoColumn, NoColumns, NoTurn, TooMany
from foldbough.papers import fold_of, folded, single, unfolded
from foldbough.tables import Table
from foldbough.texts import read_tree
from foldbough.trees import Tree
from foldbough.turns import lifted, lowered, swung, turned_to
from tests.helps import NO_NAMES, name_of, refused
from tests.plain import (BIG, EMPTY, HAND_BUNCHES, HAND_ROWS, HAND_TREE, NO_ROWS, ONE, UNIT, along, check_fold,
                         check_one_of_both, hand, plain_fold, some_folds, tree_of)

TREE = Tree([("a", None), ("b", "a"), ("d", "b"), ("e", "b"), ("c", "a"), ("f", None), ("g", "f")])
PAIR = Tree([("a", None), ("b", "a")])


def forest_of(tree, column=None):
    """The children of a column as tuples of a name and their own children."""
    return [(name, forest_of(tree, name)) for name in tree.children(column)]


def tree_from(forest):
    pairs = []

    def tell(found, upper):
        for name, beneath in found:
            pairs.append((name, upper))
            tell(beneath, name)

    tell(forest, None)
    return Tree(pairs)


def plain_swung(forest, column):
    """The forest in which the column stands in the place of the one right above it, which stands beneath it alone."""
    found = []
    for name, beneath in forest:
        own = [children for child, children in beneath if child == column]
        if own:
            found.append((column, [(name, [child for child in beneath if child[0] != column] + own[0])]))
        else:
            found.append((name, plain_swung(beneath, column)))
    return found


def plain_lifted(forest, column):
    """The forest in which the column, with all beneath it, stands right behind the one that was right above it."""
    found = []
    for name, beneath in forest:
        own = [child for child in beneath if child[0] == column]
        left = [child for child in beneath if child[0] != column]
        found.append((name, left if own else plain_lifted(beneath, column)))
        found.extend(own)
    return found


def plain_lowered(forest, column, under, moved):
    """The forest in which the column, with all that is moved beneath it, is the last child of another one."""
    found = []
    for name, beneath in forest:
        if name != column:
            last = [(column, moved)] if name == under else []
            found.append((name, plain_lowered(beneath, column, under, moved) + last))
    return found


def may_be_lowered(tree, column, under):
    upper = tree.over(column)
    near = tree.columns() if upper is None else tree.beneath(upper)[1:]
    return under in near and under not in tree.beneath(column)


def some_small_folds(seed, many, most=5):
    for chance, fold, rows in some_folds(seed, many, most, (0, 1, 2)):
        if len(rows) <= 40:
            yield chance, fold, rows


def bits(many, figures=9):
    """A fold along a(b): each of so many values of b stands with the values of a that are its bits, unlike for each."""
    told = [[number for number in range(1, many + 1) if number >> bit & 1] for bit in range(figures)]
    bunches = [("a", [(bit, (bit + 1,)) for bit in range(figures) if told[bit]])]
    bunches += [("b", [(number, ()) for number in numbers]) for numbers in told]
    return fold_of(PAIR, bunches, (0,))


def grid(many, more, tree=HAND_TREE):
    """A fold along a(b,c) in which each of many bunches of b stands with each of more bunches of c."""
    pairs = list(itertools.product(range(many), range(more)))
    bunches = [("a", [(at, (1 + one, 1 + many + other)) for at, (one, other) in enumerate(pairs)])]
    bunches += [("b", [(at, ()), (1000, ())]) for at in range(many)]
    bunches += [("c", [(at, ()), (1000, ())]) for at in range(more)]
    return fold_of(tree, bunches, (0,))


class Swung(unittest.TestCase):
    def test_by_hand(self):
        fold = swung(hand(), "c")
        self.assertEqual(str(fold.tree()), "c(a(b))")
        self.assertEqual(fold.bunches(), [("c", [(5, (1,)), (6, (3,))]), ("a", [(1, (2,)), (4, (2,))]),
                                          ("b", [(7, ()), (9, ())]), ("a", [(4, (2,))])])
        self.assertEqual(swung(fold=hand(), column="c"), fold)
        self.assertEqual(unfolded(fold)[-1], (6, 4, 9))

    def test_trees_by_hand(self):
        fold = single(TREE, (1, 2, 3, 4, 5, 6, 7))
        for column, told in [("b", "b(a(c,d,e)),f(g)"), ("c", "c(a(b(d,e))),f(g)"), ("d", "a(d(b(e)),c),f(g)"),
                             ("e", "a(e(b(d)),c),f(g)"), ("g", "a(b(d,e),c),g(f)")]:
            self.assertEqual(str(swung(fold, column).tree()), told)

    def test_twice_is_the_fold_again_where_neither_has_others_beneath(self):
        fold = bits(300)
        self.assertEqual(swung(swung(fold, "b"), "a"), fold)

    def test_no_rows(self):
        check_fold(self, swung(NO_ROWS[2], "b"), Tree([("b", None), ("a", "b"), ("c", "a")]), [])

    def test_by_chance(self):
        for _, fold, rows in some_small_folds(101, 300):
            tree = fold.tree()
            for column in tree.columns():
                if tree.over(column) is not None:
                    other = tree_from(plain_swung(forest_of(tree), column))
                    check_fold(self, swung(fold, column), other, along(rows, tree, other))

    def test_refused(self):
        for fold in NO_ROWS + [UNIT, hand()]:
            for thing in NO_NAMES + ["x", "ab"]:
                self.assertIs(name_of(self, NoColumn, swung, fold, thing), thing)
                self.assertIs(name_of(self, NoColumn, lifted, fold, thing), thing)
        for fold in NO_ROWS[1:] + [hand()]:
            self.assertEqual(name_of(self, NoTurn, swung, fold, "a"), "a")
            self.assertEqual(name_of(self, NoTurn, lifted, fold, "a"), "a")
        wide = single(TREE, (0,) * 7)
        self.assertEqual(name_of(self, NoTurn, swung, wide, "f"), "f")

    def test_four_hundred_bunches_and_one_more(self):
        fold = swung(bits(399), "b")
        self.assertEqual((len(fold), fold.count()), (400, bits(399).count()))
        self.assertEqual(swung(fold, "a"), bits(399))
        self.assertEqual(refused(self, TooMany, swung, bits(400), "b").many, 400)
        self.assertEqual(refused(self, TooMany, swung, bits(511), "b").many, 400)
        self.assertEqual(name_of(self, NoTurn, swung, bits(511), "a"), "a")

    def test_handed_in_stays_as_it_is(self):
        fold = bits(400)
        refused(self, TooMany, swung, fold, "b")
        self.assertEqual(fold, bits(400))
        told = swung(hand(), "b")
        told.bunches().clear()
        self.assertEqual(told, swung(hand(), "b"))


class Lifted(unittest.TestCase):
    def test_by_hand(self):
        told = lifted(hand(), "b")
        self.assertEqual((told[0], str(told[1].tree())), ("fold", "a(c),b"))
        self.assertEqual(unfolded(told[1]), [(1, 5, 7), (1, 5, 9), (4, 5, 7), (4, 5, 9), (4, 6, 7), (4, 6, 9)])
        self.assertEqual(lifted(fold=hand(), column="b"), told)

    def test_mixed_by_hand(self):
        told = lifted(hand(), "c")
        self.assertEqual((told[0], told[1], len(told)), ("mixed", "c", 4))
        self.assertEqual((told[2][0], told[3][0], told[3][2]), (1, 4, 6))
        other = Tree([("a", None), ("b", "a"), ("c", None)])
        self.assertEqual(check_one_of_both(self, told, other, along(HAND_ROWS, HAND_TREE, other)), "mixed")

    def test_trees_by_hand(self):
        fold = single(TREE, (1, 2, 3, 4, 5, 6, 7))
        for column, told in [("b", "a(c),b(d,e),f(g)"), ("c", "a(b(d,e)),c,f(g)"), ("d", "a(b(e),d,c),f(g)"),
                             ("e", "a(b(d),e,c),f(g)"), ("g", "a(b(d,e),c),f,g")]:
            self.assertEqual(lifted(fold, column)[0], "fold")
            self.assertEqual(str(lifted(fold, column)[1].tree()), told)

    def test_no_rows(self):
        check_fold(self, lifted(NO_ROWS[2], "b")[1], Tree([("a", None), ("c", "a"), ("b", None)]), [])

    def test_mixed_where_a_part_lies_within_the_other(self):
        # The least value of a has the greater part, so that the row that parts them is told the one's.
        for first, second in [((1,), (2,)), ((2,), (1,))]:
            fold = fold_of(PAIR, [("a", [(1, first), (2, second)]), ("b", [(5, ())]), ("b", [(5, ()), (6, ())])], (0,))
            other = Tree([("a", None), ("b", None)])
            self.assertEqual(check_one_of_both(self, lifted(fold, "b"), other, unfolded(fold)), "mixed")

    def test_mixed_far_beneath_with_more_beside(self):
        for text in ["r,s(t,u(v,a(b,c)))", "s(u(a(c,b),w),x),y"]:
            tree = read_tree(text)
            rows = [tuple({"a": a, "c": c}.get(name, at) for at, name in enumerate(tree.columns()))
                    for a, c in [(1, 5), (2, 5), (2, 6)]]
            fold = folded(Table(tree.columns(), rows), tree)[1]
            other = tree_from(plain_lifted(forest_of(tree), "c"))
            self.assertEqual(check_one_of_both(self, lifted(fold, "c"), other, along(rows, tree, other)), "mixed")

    def test_by_chance(self):
        came = {"fold": 0, "mixed": 0}
        for _, fold, rows in some_small_folds(102, 400):
            tree = fold.tree()
            for column in tree.columns():
                if tree.over(column) is not None:
                    other = tree_from(plain_lifted(forest_of(tree), column))
                    told = lifted(fold, column)
                    came[check_one_of_both(self, told, other, along(rows, tree, other))] += 1
                    if told[0] == "mixed":
                        self.assertEqual(told[1], column)
                    else:
                        self.assertLessEqual(len(told[1]), len(fold))
        self.assertGreater(min(came.values()), 60)


class Lowered(unittest.TestCase):
    def test_by_hand(self):
        fold = lowered(hand(), "b", "c")
        self.assertEqual(str(fold.tree()), "a(c(b))")
        self.assertEqual(unfolded(fold), [(1, 5, 7), (1, 5, 9), (4, 5, 7), (4, 5, 9), (4, 6, 7), (4, 6, 9)])
        self.assertEqual(lowered(fold=hand(), column="b", under="c"), fold)

    def test_trees_by_hand(self):
        fold = single(TREE, (1, 2, 3, 4, 5, 6, 7))
        for column, under, told in [("c", "b", "a(b(d,e,c)),f(g)"), ("c", "e", "a(b(d,e(c))),f(g)"),
                                    ("b", "c", "a(c(b(d,e))),f(g)"), ("d", "e", "a(b(e(d)),c),f(g)"),
                                    ("f", "a", "a(b(d,e),c,f(g))"), ("f", "d", "a(b(d(f(g)),e),c)"),
                                    ("a", "f", "f(g,a(b(d,e),c))"), ("a", "g", "f(g(a(b(d,e),c)))")]:
            self.assertEqual(str(lowered(fold, column, under).tree()), told)

    def test_a_top_beneath_another_top(self):
        tree = Tree([("a", None), ("b", None)])
        fold = fold_of(tree, [("a", [(1, ()), (2, ())]), ("b", [(5, ()), (6, ())])], (0, 1))
        self.assertEqual(lowered(fold, "b", "a").bunches(), [("a", [(1, (1,)), (2, (1,))]), ("b", [(5, ()), (6, ())])])
        self.assertEqual(lifted(lowered(fold, "b", "a"), "b"), ("fold", fold))
        self.assertEqual(str(lowered(fold, "a", "b").tree()), "b(a)")

    def test_no_rows(self):
        check_fold(self, lowered(NO_ROWS[2], "b", "c"), Tree([("a", None), ("c", "a"), ("b", "c")]), [])
        tree = Tree([("a", None), ("b", None)])
        check_fold(self, lowered(fold_of(tree, [], None), "a", "b"), Tree([("b", None), ("a", "b")]), [])

    def test_by_chance(self):
        for _, fold, rows in some_small_folds(103, 250):
            tree = fold.tree()
            for column, under in itertools.product(tree.columns(), repeat=2):
                if may_be_lowered(tree, column, under):
                    moved = forest_of(tree, column)
                    other = tree_from(plain_lowered(forest_of(tree), column, under, moved))
                    check_fold(self, lowered(fold, column, under), other, along(rows, tree, other))
                else:
                    self.assertEqual(name_of(self, NoTurn, lowered, fold, column, under), column)

    def test_no_turn(self):
        fold = single(TREE, (0,) * 7)
        for column, under in [("b", "b"), ("b", "a"), ("b", "d"), ("d", "c"), ("d", "b"), ("d", "a"), ("c", "f"),
                              ("c", "g"), ("a", "a"), ("a", "b"), ("a", "e"), ("f", "g"), ("g", "a"), ("g", "f")]:
            self.assertEqual(name_of(self, NoTurn, lowered, fold, column, under), column)
            self.assertEqual(name_of(self, NoTurn, lowered, fold_of(TREE, [], None), column, under), column)

    def test_no_column_ahead_of_no_turn(self):
        for fold in NO_ROWS[1:] + [hand()]:
            for thing in NO_NAMES + ["x", "ab"]:
                self.assertIs(name_of(self, NoColumn, lowered, fold, thing, "a"), thing)
                self.assertIs(name_of(self, NoColumn, lowered, fold, thing, "x"), thing)
                self.assertIs(name_of(self, NoColumn, lowered, fold, "a", thing), thing)
                self.assertIs(name_of(self, NoColumn, lowered, fold, "y", thing), "y")

    def test_four_hundred_bunches_and_one_more(self):
        # Beneath a stand then as many bunches of b as there are pairs, and those of c beneath them.
        fold = lowered(grid(20, 19), "c", "b")
        self.assertEqual((len(grid(20, 19)), len(fold)), (40, 400))
        self.assertEqual(fold.count(), grid(20, 19).count())
        self.assertEqual(refused(self, TooMany, lowered, grid(19, 20), "c", "b").many, 400)
        self.assertEqual(len(lowered(grid(19, 20), "b", "c")), 400)
        self.assertEqual(refused(self, TooMany, lowered, grid(20, 20), "c", "b").many, 400)
        self.assertEqual(name_of(self, NoTurn, lowered, grid(20, 20), "c", "a"), "c")


class Turned(unittest.TestCase):
    def test_by_hand(self):
        told = turned_to(hand(), Tree([("c", None), ("a", "c"), ("b", None)]))
        self.assertEqual((told[0], unfolded(told[1])), ("fold", [(5, 1, 7), (5, 1, 9), (5, 4, 7), (5, 4, 9),
                                                                 (6, 4, 7), (6, 4, 9)]))
        self.assertEqual(turned_to(told[1], HAND_TREE), ("fold", hand()))
        self.assertEqual(turned_to(fold=hand(), tree=told[1].tree()), told)

    def test_mixed_by_hand(self):
        tree = Tree([("b", None), ("c", "b"), ("a", "b")])
        told = turned_to(hand(), tree)
        self.assertEqual(check_one_of_both(self, told, tree, along(HAND_ROWS, HAND_TREE, tree)), "mixed")

    def test_to_its_own_tree(self):
        for fold in NO_ROWS + [UNIT, hand(), single(TREE, (BIG,) * 7)]:
            self.assertEqual(turned_to(fold, fold.tree()), ("fold", fold))

    def test_no_rows(self):
        for tree in [Tree([(name, None) for name in "cab"]), Tree([("b", None), ("a", "b"), ("c", "a")])]:
            self.assertEqual(turned_to(NO_ROWS[2], tree), ("fold", fold_of(tree, [], None)))

    def test_to_any_tree_and_back(self):
        came = {"fold": 0, "mixed": 0}
        for chance, fold, rows in some_small_folds(104, 300):
            for _ in range(4):
                tree = tree_of(chance, fold.tree().columns())
                told = turned_to(fold, tree)
                came[check_one_of_both(self, told, tree, along(rows, fold.tree(), tree))] += 1
                if told[0] == "fold":
                    self.assertEqual(turned_to(told[1], fold.tree()), ("fold", fold))
        self.assertGreater(min(came.values()), 60)

    def test_as_swung_lifted_and_lowered_tell(self):
        for chance, fold, _ in some_small_folds(105, 150):
            for column in fold.tree().columns():
                if fold.tree().over(column) is not None:
                    told = swung(fold, column)
                    self.assertEqual(turned_to(fold, told.tree()), ("fold", told))
                    told = lifted(fold, column)
                    if told[0] == "fold":
                        self.assertEqual(turned_to(fold, told[1].tree()), told)

    def test_other_columns(self):
        others = [EMPTY, ONE, PAIR, Tree([("a", None), ("b", None), ("d", None)]),
                  Tree([("a", None), ("b", "a"), ("c", "a"), ("d", None)])]
        for tree in others:
            for fold in [hand(), NO_ROWS[2]]:
                refused(self, NoColumns, turned_to, fold, tree)
        refused(self, NoColumns, turned_to, UNIT, ONE)

    def test_four_hundred_bunches_and_one_more(self):
        tree = Tree([("b", None), ("a", "b")])
        self.assertEqual(turned_to(bits(399), tree), ("fold", swung(bits(399), "b")))
        self.assertEqual(turned_to(swung(bits(399), "b"), PAIR), ("fold", bits(399)))
        self.assertEqual(refused(self, TooMany, turned_to, bits(400), tree).many, 400)
        self.assertEqual(turned_to(bits(400), PAIR), ("fold", bits(400)))

    def test_the_one_way_down_has_too_many_though_the_turned_fold_has_few(self):
        # Along a, b, c each pair of a bunch of b and one of c is a part of its own.
        self.assertEqual(turned_to(grid(20, 19), HAND_TREE), ("fold", grid(20, 19)))
        self.assertEqual(len(grid(19, 20)), 40)
        self.assertEqual(refused(self, TooMany, turned_to, grid(19, 20), HAND_TREE).many, 400)
        # Along a, c, b there are just four hundred.
        other = Tree([("a", None), ("c", "a"), ("b", "a")])
        told = turned_to(grid(19, 20), other)
        self.assertEqual((told[0], len(told[1]), told[1].count()), ("fold", 40, grid(19, 20).count()))
        self.assertEqual(refused(self, TooMany, turned_to, told[1], HAND_TREE).many, 400)

    def test_the_one_way_down_has_few_though_the_fold_has_many(self):
        fold = swung(bits(399), "b")
        told = turned_to(fold, PAIR)
        self.assertEqual((len(fold), len(told[1])), (400, 10))

    def test_too_many_ahead_of_mixed(self):
        tops = Tree([("b", None), ("a", None)])
        self.assertEqual(check_mixed_ends(turned_to(bits(399), tops)), "mixed")
        self.assertEqual(refused(self, TooMany, turned_to, bits(400), tops).many, 400)

    def test_handed_in_stays_as_it_is(self):
        fold = grid(19, 20)
        refused(self, TooMany, turned_to, fold, HAND_TREE)
        turned_to(fold, Tree([("b", None), ("a", "b"), ("c", "a")]))
        self.assertEqual(fold, grid(19, 20))
        told = turned_to(hand(), Tree([("c", None), ("a", "c"), ("b", None)]))[1]
        again = fold_of(told.tree(), told.bunches(), told.tops())
        told.bunches().clear()
        self.assertEqual(told, again)
        self.assertEqual(fold_of(HAND_TREE, HAND_BUNCHES, (0,)), hand())


class OtherLimits(unittest.TestCase):
    """That bunches are counted just so, by other limits than four hundred, which small folds come to as well."""

    def test_by_chance(self):
        came = {True: 0, False: 0}
        for chance, fold, rows in some_small_folds(107, 400):
            tree = fold.tree()
            with unittest.mock.patch("foldbough.turns.MOST_BUNCHES", chance.randrange(4, 9)) as most:
                for column, under in itertools.product(tree.columns(), repeat=2):
                    if column == under and tree.over(column) is not None:
                        other = tree_from(plain_swung(forest_of(tree), column))
                        came[self.is_refused(most, rows, tree, other, swung, fold, column)] += 1
                    if may_be_lowered(tree, column, under):
                        moved = forest_of(tree, column)
                        other = tree_from(plain_lowered(forest_of(tree), column, under, moved))
                        came[self.is_refused(most, rows, tree, other, lowered, fold, column, under)] += 1
                other = tree_of(chance, tree.columns())
                names = other.columns()
                way = Tree([(name, names[at - 1] if at else None) for at, name in enumerate(names)])
                came[self.is_refused(most, rows, tree, way, turned_to, fold, other)] += 1
        self.assertGreater(min(came.values()), 100)

    def is_refused(self, most, rows, tree, other, call, *handed):
        """Whether the call is refused, as it is just where there are more bunches of the rows along the other tree."""
        bunches, _ = plain_fold(other, along(rows, tree, other))
        if len(bunches) > most:
            self.assertEqual(refused(self, TooMany, call, *handed).many, most)
        else:
            call(*handed)
        return len(bunches) > most


def check_mixed_ends(told):
    """That a mix of two values that don't stand together is told; its word."""
    word, column, one, other = told
    mixed = (other[0], one[1]) if column == "b" else (one[0], other[1])
    assert mixed[0] >> mixed[1] & 1 == 0
    return word


if __name__ == "__main__":
    unittest.main()
