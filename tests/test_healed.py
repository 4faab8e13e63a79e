"""Point 4.6: healed tables."""

import itertools
import random
import unittest

from foldbough.errors import NoColumns
from foldbough.healed import healed
from foldbough.papers import fold_of, folded, unfolded
from foldbough.tables import Table
from foldbough.trees import Tree
from tests.helps import refused
from tests.plain import BIG, some_folded, some_tree, values_at

EMPTY = Tree([])
TREE = Tree([("a", None), ("b", "a"), ("c", "a")])


def plain_healed(rows, tree):
    """The rows that, for each column without children, are alike some row at it and all above it."""
    ways = [tree.above(column) + [column] for column in tree.columns() if not tree.children(column)]
    there = [{values_at(tree, row, way) for row in rows} for way in ways]
    values = [sorted({row[at] for row in rows}) for at in range(len(tree))]
    if not ways:
        return list(rows)
    return [row for row in itertools.product(*values)
            if all(values_at(tree, row, way) in lets for way, lets in zip(ways, there))]


class Healed(unittest.TestCase):
    def test_by_hand(self):
        table = Table(["c", "a", "b"], [(1, 1, 1), (2, 1, 2), (5, 3, 4), (-BIG, 3, 4)])
        told = [(1, 1, 1), (1, 1, 2), (1, 2, 1), (1, 2, 2), (3, 4, -BIG), (3, 4, 5)]
        self.assertEqual(unfolded(healed(table, TREE)), told)
        self.assertEqual(healed(table=table, tree=TREE).tree(), TREE)

    def test_no_columns(self):
        self.assertEqual(healed(Table([]), EMPTY), fold_of(EMPTY, [], None))
        self.assertEqual(healed(Table([], [()]), EMPTY), fold_of(EMPTY, [], ()))

    def test_no_rows(self):
        self.assertEqual(healed(Table(["b", "c", "a"]), TREE), fold_of(TREE, [], None))

    def test_by_chance(self):
        chance = random.Random(56)
        for _ in range(300):
            tree = some_tree(chance, 5)
            rows = list(itertools.product((1, 2, 3), repeat=len(tree)))
            rows = sorted(chance.sample(rows, min(chance.randrange(6), len(rows))))
            table = Table(tree.columns(), rows).of(chance.sample(tree.columns(), len(tree)))
            fold = healed(table, tree)
            found = unfolded(fold, 10 ** 9)
            self.assertEqual(found, plain_healed(rows, tree))
            self.assertEqual(fold_of(tree, fold.bunches(), fold.tops()), fold)
            self.assertLessEqual(set(rows), set(found))
            self.assertEqual(folded(table, tree)[0] == "fold", found == rows)

    def test_held_by_every_fold_that_holds_the_rows(self):
        chance = random.Random(57)
        for _ in range(200):
            tree = some_tree(chance, 5)
            rows = unfolded(fold_of(tree, *some_folded(chance, tree)), 10 ** 9)
            some = chance.sample(rows, min(chance.randrange(6), len(rows)))
            found = unfolded(healed(Table(tree.columns(), some), tree), 10 ** 9)
            self.assertLessEqual(set(found), set(rows))

    def test_a_fold_of_its_rows_is_healed_already(self):
        chance = random.Random(58)
        for _ in range(100):
            tree = some_tree(chance, 5)
            fold = fold_of(tree, *some_folded(chance, tree, (1, 2, 3)))
            if fold.count() <= 300:
                self.assertEqual(healed(Table(tree.columns(), unfolded(fold)), tree), fold)

    def test_forty_rows_along_eight_tops(self):
        tree = Tree([(name, None) for name in "abcdefgh"])
        fold = healed(Table(list("hgfedcba"), [(k,) * 8 for k in range(40)]), tree)
        self.assertEqual((fold.count(), len(fold)), (40 ** 8, 8))

    def test_never_too_many(self):
        # Places that come don't count here, however many they are.
        tree = Tree([("a", None), ("b", "a"), ("c", "b"), ("d", "c")])
        rows = [(k, -k, k, -k) for k in range(300)]
        self.assertEqual(unfolded(healed(Table(list("abcd"), rows), tree)), rows)

    def test_other_columns(self):
        for columns in [[], ["a"], ["a", "b"], ["a", "b", "d"], ["a", "b", "c", "d"]]:
            refused(self, NoColumns, healed, Table(columns), TREE)
        refused(self, NoColumns, healed, Table(["a"], [(1,)]), EMPTY)
        refused(self, NoColumns, healed, Table([], [()]), Tree([("a", None)]))

    def test_handed_in_stays_as_it_is(self):
        table = Table(["c", "b", "a"], [(1, 1, 1), (2, 2, 1)])
        healed(table, TREE)
        self.assertEqual(table, Table(["c", "b", "a"], [(1, 1, 1), (2, 2, 1)]))


if __name__ == "__main__":
    unittest.main()
