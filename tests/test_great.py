"""Great folds are made, counted, summed and asked quickly, and their rows never written out."""

import random
import time
import unittest

from foldbough.costs import greatest, least
from foldbough.errors import TooMany
from foldbough.healed import healed
from foldbough.joins import check_places, fold_join, places
from foldbough.orders import between, first_from, place_of, row_at
from foldbough.papers import fold_of, parting, road_to, unfolded
from foldbough.sums import by, counts, product_of, roads, sum_of, sums_by, through, total
from foldbough.tables import Table
from foldbough.trees import Tree
from tests.helps import refused
from tests.plain import BIG

# Far more than is needed, far less than it would take to go through the rows.
MOST_SECONDS = 30
NAMES = "abcdefgh"
ONE_WAY = Tree([(name, NAMES[at - 1] if at else None) for at, name in enumerate(NAMES)])
WIDE = Tree([("a", None)] + [(name, "a") for name in "bcdefgh"])
FORKED = Tree([("a", None), ("b", "a"), ("c", "b"), ("d", "b"), ("e", "a"), ("f", "e"), ("g", None), ("h", "g")])


def great_fold(tree, seed, bunches=49, values=40):
    """A fold of so many bunches of each column but the tops, of up to so many values each."""
    chance = random.Random(seed)
    many = {column: 1 if tree.over(column) is None else bunches for column in tree.columns()}
    starts, start = {}, 0
    for column in tree.columns():
        starts[column] = start
        start += many[column]
    told = []
    for column in tree.columns():
        for _ in range(many[column]):
            entries = [(value, tuple(starts[child] + chance.randrange(many[child]) for child in tree.children(column)))
                       for value in sorted(chance.sample(range(-3 * values, 3 * values), values))]
            told.append((column, entries))
    return fold_of(tree, told, tuple(starts[top] for top in tree.children()))


class Great(unittest.TestCase):
    def setUp(self):
        self.begin = time.monotonic()

    def tearDown(self):
        self.assertLess(time.monotonic() - self.begin, MOST_SECONDS)

    def test_folds_of_eight_columns(self):
        for seed, tree in enumerate([ONE_WAY, WIDE, FORKED]):
            fold = great_fold(tree, seed)
            self.assertGreater(fold.count(), 10 ** 8)
            self.assertGreater(len(fold), 150)
            self.assertEqual(fold_of(tree, fold.bunches(), fold.tops()), fold)
            self.check_sums(fold)
            self.check_asks(fold)
            self.check_papers(fold)

    def check_sums(self, fold):
        columns = fold.tree().columns()
        many = fold.count()
        self.assertEqual(len(counts(fold)), len(roads(fold)))
        for column in columns:
            own = [number for number, bunch in enumerate(fold.bunches()) if bunch[0] == column]
            self.assertEqual(sum(through(fold)[number] for number in own), many)
            told = by(fold, column)
            self.assertEqual(sum(times for _, times in told), many)
            self.assertEqual(sum_of(fold, column), sum(value * times for value, times in told))
            for other in columns:
                self.assertEqual(sum(value for _, value in sums_by(fold, column, other)), sum_of(fold, other))
        weighed = {(column, value): value for column in columns for value in range(-120, 120)}
        self.assertEqual(total(fold, weighed), product_of(fold, columns))
        self.assertEqual(total(fold, {}), many)

    def check_asks(self, fold):
        columns = fold.tree().columns()
        chance = random.Random(70)
        many = fold.count()
        costs = {(column, value): value * value for column in columns for value in range(-120, 120)}
        for told in [least(fold, costs), greatest(fold, costs)]:
            self.assertEqual(told[0], sum(value * value for value in told[1]))
            self.assertIs(fold.has(told[1]), True)
        for _ in range(200):
            number = chance.randrange(many)
            row = row_at(fold, number)
            self.assertEqual(place_of(fold, row), number)
            self.assertEqual(first_from(fold, row), (number, row))
            self.assertEqual(between(fold, row, (BIG,) * 8), many - number)
            self.assertEqual(first_from(fold, row[:-1] + (row[-1] + 1,)),
                             None if number == many - 1 else (number + 1, row_at(fold, number + 1)))

    def check_papers(self, fold):
        bunches = fold.bunches()
        self.assertEqual(refused(self, TooMany, unfolded, fold).many, fold.count())
        for number, (column, _) in enumerate(bunches):
            self.assertEqual(len(road_to(fold, number)), len(fold.tree().above(column)))
            self.assertIsNone(parting(fold, number, number))
        for one in range(1, len(bunches)):
            if bunches[one - 1][0] == bunches[one][0]:
                which, row = parting(fold, one - 1, one)
                self.assertIn(which, ["one", "other"])
                self.assertEqual(len(row), len(fold.tree().beneath(bunches[one][0])))

    def test_answers_of_six_tables(self):
        chance = random.Random(71)
        tables = []
        for column in "bcdefg":
            pairs = [(k % 8, chance.randrange(30)) for k in range(32)]
            tables.append(Table(["a", column], pairs + [(k, 40) for k in range(8)]))
        tree = Tree([("a", None)] + [(name, "a") for name in "bcdefg"])
        fold = fold_join(tables, tree)
        # Going by the values of a, the answer has as many rows as the tables' rows make products.
        many = 0
        for value in range(8):
            product = 1
            for table in tables:
                product *= sum(row[0] == value for row in table.rows())
            many += product
        self.assertEqual(fold.count(), many)
        self.assertIs(check_places(tables, tree, fold, places(tables, tree)), True)
        self.check_sums_of_answer(fold, many)

    def check_sums_of_answer(self, fold, many):
        for column in fold.tree().columns():
            self.assertEqual(sum(times for _, times in by(fold, column)), many)
        self.assertEqual(place_of(fold, row_at(fold, many - 1)), many - 1)

    def test_more_than_a_hundred_million_rows(self):
        tree = Tree([(name, None) for name in NAMES])
        tables = [Table([name], [(k,) for k in range(40)]) for name in NAMES[2:]]
        pairs = Tree([("a", None), ("b", "a")] + [(name, None) for name in NAMES[2:]])
        both = tables[:5] + [Table(["a", "b"], [(k, -k) for k in range(40)]), tables[5]]
        self.assertEqual(fold_join(both, pairs).count(), 40 ** 7)
        fold = healed(Table(list(NAMES), [(k,) * 8 for k in range(40)]), tree)
        self.assertEqual(fold.count(), 40 ** 8)
        self.assertEqual(row_at(fold, 40 ** 8 - 1), (39,) * 8)
        self.assertEqual(sum_of(fold, "h"), 780 * 40 ** 7)
        self.assertEqual(product_of(fold, list(NAMES)), 780 ** 8)

    def test_two_hundred_bunches_of_a_column_of_unlike_values(self):
        bunches = [("a", [(k, (1 + k,)) for k in range(200)])]
        bunches += [("b", [(40 * k + j, (201,)) for j in range(40)]) for k in range(200)]
        bunches.append(("c", [(k, ()) for k in range(40)]))
        fold = fold_of(Tree([("a", None), ("b", "a"), ("c", "b")]), bunches, (0,))
        self.assertEqual(by(fold, "b"), [(value, 40) for value in range(8000)])
        self.assertEqual(sums_by(fold, "b", "a"), [(value, 40 * (value // 40)) for value in range(8000)])
        self.assertEqual(sums_by(fold, "b", "c"), [(value, 780) for value in range(8000)])


if __name__ == "__main__":
    unittest.main()
