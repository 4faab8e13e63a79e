"""Great folds are walked, kept, brought together, met, united and turned quickly, and their rows never written out."""

import random
import time
import unittest

from foldbough.algebra import beside, brought, kept, met, within, without
from foldbough.errors import FoldError, NoPlace, TooMany
from foldbough.lightest import lightest
from foldbough.orders import place_of, row_at
from foldbough.papers import fold_of, mix, single
from foldbough.sums import by
from foldbough.trees import Tree
from foldbough.turns import lifted, lowered, swung, turned_to
from foldbough.unions import less, put_in, took_out, united
from foldbough.walker import Walker
from tests.helps import number_of, refused
from tests.plain import tree_of
from tests.test_great import FORKED, MOST_SECONDS, NAMES, ONE_WAY, WIDE, great_fold

TREES = [ONE_WAY, WIDE, FORKED]
TOPS = Tree([(name, None) for name in NAMES])


class Great(unittest.TestCase):
    def setUp(self):
        self.begin = time.monotonic()

    def tearDown(self):
        self.assertLess(time.monotonic() - self.begin, MOST_SECONDS)

    def great_folds(self, seed):
        for at, tree in enumerate(TREES):
            fold = great_fold(tree, seed + at)
            self.assertGreater(fold.count(), 10 ** 8)
            yield fold

    def test_walked(self):
        chance = random.Random(110)
        for fold in self.great_folds(111):
            many = fold.count()
            walker = Walker(fold)
            number = 0
            for _ in range(300):
                many_on = chance.randrange(many - number)
                self.assertEqual(walker.step(many_on), row_at(fold, number + many_on))
                number += many_on
                twin = walker.twin()
                self.assertEqual(twin.to(walker.row()), walker.row())
                many_back = chance.randrange(number + 1)
                self.assertEqual(twin.back(many_back), row_at(fold, number - many_back))
                self.assertEqual((walker.where(), twin.where()), (number, number - many_back))
                walker, number = twin, number - many_back
            walker.step(many - 1 - number)
            self.assertEqual(number_of(self, NoPlace, walker.step, 3), many + 2)
            self.assertEqual(walker.where(), many - 1)

    def test_kept_and_left_out(self):
        for fold in self.great_folds(114):
            for column in NAMES:
                values = by(fold, column)
                middle = values[len(values) // 2][0]
                low = kept(fold, column, values[0][0], middle)
                high = kept(fold, column, middle + 1, values[-1][0])
                self.assertEqual(low.count(), sum(many for value, many in values if value <= middle))
                self.assertEqual(low.count() + high.count(), fold.count())
                self.assertIsNone(within(low, fold))
                row = within(fold, low)
                self.assertEqual(place_of(fold, row), place_of(fold, row_at(high, 0)))
                self.assertEqual(met(low, high).count(), 0)
                self.assertEqual(met(fold, low), low)
                self.assertEqual(less(fold, low), ("fold", high))
                self.assertEqual(united(low, high), ("fold", fold))
        self.assertEqual(len(without(fold, "h").tree()), 7)

    def test_single_rows(self):
        for fold in self.great_folds(117):
            tree = fold.tree()
            row = row_at(fold, fold.count() // 3)
            self.assertEqual(put_in(fold, row), ("fold", fold))
            for told, other in [(put_in, row[:-1] + (10 ** 9,)), (took_out, row)]:
                found = told(fold, other)
                if found[0] == "fold":
                    self.assertEqual(abs(found[1].count() - fold.count()), 1)
                else:
                    self.check_mixed(fold, found, tree, lambda mixed: place_of(fold, mixed) is None or mixed == row)

    def check_mixed(self, fold, found, tree, is_none):
        _, column, one, other = found
        above = [tree.columns().index(name) for name in tree.above(column)]
        self.assertEqual([one[at] for at in above], [other[at] for at in above])
        self.assertTrue(is_none(mix(tree, column, one, other)))

    def test_two_by_chance(self):
        for fold in self.great_folds(120):
            other = great_fold(fold.tree(), 1000)
            both = met(fold, other)
            self.assertIsNone(within(both, fold))
            self.assertIsNone(within(both, other))
            told = united(fold, other)
            if told[0] == "fold":
                self.assertEqual(told[1].count(), fold.count() + other.count() - both.count())
            told = less(fold, other)
            if told[0] == "fold":
                self.assertEqual(told[1].count(), fold.count() - both.count())
            self.assertEqual(met(both, fold), both)

    def test_brought_together(self):
        upper = great_fold(Tree([("a", None), ("b", "a"), ("c", "b"), ("d", "a")]), 123)
        other = great_fold(Tree([("a", None), ("b", "a"), ("e", "b"), ("f", "e"), ("g", "a"), ("h", None)]), 124)
        fold = brought(upper, other)
        self.assertEqual(str(fold.tree()), "a(b(c,e(f)),d,g),h")
        self.assertGreater(fold.count(), 10 ** 8)
        for _ in range(3):
            row = row_at(fold, fold.count() // 2)
            named = dict(zip(fold.tree().columns(), row))
            for part in [upper, other]:
                self.assertIs(part.has(tuple(named[name] for name in part.tree().columns())), True)
        self.assertEqual(brought(fold, upper), fold)
        names = dict(zip(upper.tree().columns(), "wxyz"))
        tree = Tree([(names[name], names.get(over)) for name, over in upper.tree().pairs()])
        moved = fold_of(tree, [(names[column], entries) for column, entries in upper.bunches()], upper.tops())
        self.assertEqual(beside(upper, moved).count(), upper.count() ** 2)

    def test_turned_or_too_many(self):
        chance = random.Random(127)
        for fold in self.great_folds(128):
            self.check_turns(fold)
            for _ in range(4):
                tree = tree_of(chance, list(NAMES))
                try:
                    told = turned_to(fold, tree)
                except TooMany as refusal:
                    self.assertEqual(refusal.many, 400)
                else:
                    self.check_mixed_or_count(fold, told, tree)

    def check_turns(self, fold):
        tree = fold.tree()
        for column in NAMES:
            for call, more in [(swung, ())] + [(lowered, (under,)) for under in NAMES]:
                try:
                    told = call(fold, column, *more)
                except FoldError:
                    continue
                self.assertEqual(told.count(), fold.count())
                self.assertLessEqual(len(told), 400)
            if tree.over(column) is not None and lifted(fold, column)[0] == "fold":
                self.assertEqual(lifted(fold, column)[1].count(), fold.count())

    def check_mixed_or_count(self, fold, told, tree):
        if told[0] == "fold":
            self.assertEqual(told[1].count(), fold.count())
        else:
            self.assertEqual(len(told[2]), len(tree))

    def test_turned_and_back(self):
        # Of few unlike parts, so that along any way down there are few bunches.
        bunches = [("a", [(value, (1 + value % 2, 3, 4, 5, 6, 7, 8)) for value in range(40)])]
        bunches += [("b", [(3 * value + at, ()) for value in range(40)]) for at in range(2)]
        bunches += [(name, [(value, ()) for value in range(40)]) for name in "cdefgh"]
        fold = fold_of(WIDE, bunches, (0,))
        self.assertEqual(fold.count(), 40 ** 8)
        chance = random.Random(130)
        for _ in range(20):
            names = chance.sample(NAMES, 8)
            way = Tree([(name, names[at - 1] if at else None) for at, name in enumerate(names)])
            told = turned_to(fold, way)
            self.assertEqual((told[0], told[1].count()), ("fold", 40 ** 8))
            self.assertEqual(turned_to(told[1], WIDE), ("fold", fold))
        told = turned_to(fold, TOPS)
        self.assertEqual(told[0], "mixed")
        self.assertEqual(turned_to(fold, Tree([("b", None), ("a", "b")] + TOPS.pairs()[2:]))[0], "fold")
        self.assertEqual(str(lightest(fold)[0].tree()), "a(b),h,g,f,e,d,c")

    def test_four_hundred_bunches_of_four_hundred_values(self):
        bunches = [("a", [(at, (at + 1,)) for at in range(399)])]
        bunches += [("b", [(400 * at + more, ()) for more in range(400)]) for at in range(399)]
        fold = fold_of(Tree([("a", None), ("b", "a")]), bunches, (0,))
        told = swung(fold, "b")
        self.assertEqual((len(told), told.weight(), told.count()), (400, 399 * 401, 399 * 400))
        self.assertEqual(turned_to(fold, told.tree()), ("fold", told))
        self.assertEqual(turned_to(told, fold.tree()), ("fold", fold))
        self.assertEqual(lifted(fold, "b")[0], "mixed")
        self.assertEqual(united(fold, single(fold.tree(), (400, 0)))[1].count(), 399 * 400 + 1)


if __name__ == "__main__":
    unittest.main()
