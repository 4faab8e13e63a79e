"""Points 3.4 to 3.7: unfolded, single, mix, folded, check_mixed, road_to and parting."""

import copy
import itertools
import random
import unittest

from foldbough.errors import NoBunch, NoColumn, NoColumns, NoPaper, NoRow, TooMany
from foldbough.papers import check_mixed, fold_of, folded, mix, parting, road_to, single, unfolded
from foldbough.tables import Table
from foldbough.trees import Tree
from tests.helps import NO_NAMES, NO_WHOLES, ODD, name_of, number_of, refused
from tests.plain import (BIG, HAND_BUNCHES, HAND_ROWS, HAND_TREE, parts_of, rows_of, rows_of_bunch, some_folded,
                         some_tree, values_at)

EMPTY = Tree([])
ONE = Tree([("a", None)])
WAY = Tree([("a", None), ("b", "a"), ("c", "b"), ("d", "a"), ("e", None)])


def hand():
    return fold_of(HAND_TREE, HAND_BUNCHES, (0,))


def many_rows(many):
    return fold_of(ONE, [("a", [(value, ()) for value in range(many)])], (0,))


def plain_mix(tree, column, one, other):
    beneath = tree.beneath(column)
    return tuple(y if name in beneath else x for name, x, y in zip(tree.columns(), one, other))


def plain_mixed(rows, tree):
    """Whether two of the rows, alike above a column, have a mix that is none of them."""
    for column in tree.columns():
        for one, other in itertools.product(rows, rows):
            above = tree.above(column)
            if values_at(tree, one, above) == values_at(tree, other, above):
                if plain_mix(tree, column, one, other) not in rows:
                    return True
    return False


class Unfolded(unittest.TestCase):
    def test_by_hand(self):
        self.assertEqual(unfolded(hand()), HAND_ROWS)
        self.assertEqual(unfolded(fold=hand(), most=6), HAND_ROWS)
        self.assertIs(type(unfolded(hand())), list)

    def test_none_and_the_row_of_no_columns(self):
        self.assertEqual(unfolded(fold_of(ONE, [], None)), [])
        self.assertEqual(unfolded(fold_of(ONE, [], None), 0), [])
        self.assertEqual(unfolded(fold_of(EMPTY, [], None)), [])
        self.assertEqual(unfolded(fold_of(EMPTY, [], ())), [()])
        self.assertEqual(unfolded(fold_of(EMPTY, [], ()), 1), [()])

    def test_more_than_most(self):
        self.assertEqual(refused(self, TooMany, unfolded, hand(), 5).many, 6)
        self.assertEqual(refused(self, TooMany, unfolded, hand(), 0).many, 6)
        self.assertEqual(refused(self, TooMany, unfolded, hand(), most=0).many, 6)
        self.assertEqual(refused(self, TooMany, unfolded, fold_of(EMPTY, [], ()), 0).many, 1)

    def test_a_thousand_and_one_more(self):
        self.assertEqual(unfolded(many_rows(1000)), [(value,) for value in range(1000)])
        self.assertEqual(refused(self, TooMany, unfolded, many_rows(1001)).many, 1001)
        self.assertEqual(len(unfolded(many_rows(1001), 1001)), 1001)
        self.assertEqual(refused(self, TooMany, unfolded, many_rows(1001), 1000).many, 1001)

    def test_by_chance(self):
        chance = random.Random(41)
        for _ in range(150):
            tree = some_tree(chance)
            bunches, tops = some_folded(chance, tree)
            rows = rows_of(bunches, tops)
            told = unfolded(fold_of(tree, bunches, tops), 10 ** 9)
            self.assertEqual(told, rows)
            self.assertEqual(told, sorted(set(rows)))

    def test_told_lists_are_new_ones(self):
        fold = hand()
        unfolded(fold).clear()
        self.assertEqual(unfolded(fold), HAND_ROWS)


class Single(unittest.TestCase):
    def test_by_hand(self):
        fold = single(WAY, (1, -2, BIG, 0, 5))
        bunches = [("a", [(1, (1, 3))]), ("b", [(-2, (2,))]), ("c", [(BIG, ())]), ("d", [(0, ())]), ("e", [(5, ())])]
        self.assertEqual(fold.bunches(), bunches)
        self.assertEqual(fold.tops(), (0, 4))
        self.assertEqual(unfolded(single(tree=WAY, row=(1, 2, 3, 4, 5))), [(1, 2, 3, 4, 5)])

    def test_without_columns(self):
        self.assertEqual(single(EMPTY, ()), fold_of(EMPTY, [], ()))

    def test_by_chance(self):
        chance = random.Random(42)
        for _ in range(50):
            tree = some_tree(chance, 8)
            row = tuple(chance.randrange(-9, 9) for _ in range(len(tree)))
            self.assertEqual(unfolded(single(tree, row)), [row])
            self.assertEqual(folded(Table(tree.columns(), [row]), tree), ("fold", single(tree, row)))

    def test_no_row(self):
        for thing in ODD + [None, 1, "abc", [1, 7, 5], (), (1,), (1, 7), (1, 7, 5, 5)]:
            self.assertEqual(number_of(self, NoRow, single, HAND_TREE, thing), 0)
        for thing in NO_WHOLES:
            self.assertEqual(number_of(self, NoRow, single, HAND_TREE, (1, 7, thing)), 0)
        self.assertEqual(number_of(self, NoRow, single, EMPTY, (1,)), 0)
        self.assertEqual(number_of(self, NoRow, single, EMPTY, []), 0)


class Mix(unittest.TestCase):
    def test_by_hand(self):
        one, other = (1, 2, 3, 4, 5), (-1, -2, -3, -4, -5)
        told = {"a": (-1, -2, -3, -4, 5), "b": (1, -2, -3, 4, 5), "c": (1, 2, -3, 4, 5), "d": (1, 2, 3, -4, 5),
                "e": (1, 2, 3, 4, -5)}
        for column in WAY.columns():
            self.assertEqual(mix(WAY, column, one, other), told[column])
            self.assertEqual(mix(tree=WAY, column=column, one=other, other=one), tuple(-x for x in told[column]))
            self.assertEqual(mix(WAY, column, one, one), one)

    def test_by_chance(self):
        chance = random.Random(43)
        for _ in range(50):
            tree = some_tree(chance, 8, 1)
            one, other = [tuple(chance.randrange(9) for _ in range(len(tree))) for _ in range(2)]
            for column in tree.columns():
                self.assertEqual(mix(tree, column, one, other), plain_mix(tree, column, one, other))

    def test_no_column_ahead_of_no_row(self):
        row = (1, 7, 5)
        for thing in NO_NAMES + ["x", "d"]:
            self.assertIs(name_of(self, NoColumn, mix, HAND_TREE, thing, row, row), thing)
            self.assertIs(name_of(self, NoColumn, mix, HAND_TREE, thing, 3, None), thing)
        self.assertEqual(name_of(self, NoColumn, mix, EMPTY, "a", (), ()), "a")

    def test_no_row_the_one_first(self):
        row = (1, 7, 5)
        no_rows = ODD + [None, 3, [1, 7, 5], (), (1, 7), (1, 7, 5, 5)] + [(thing, 7, 5) for thing in NO_WHOLES]
        for thing in no_rows:
            self.assertEqual(number_of(self, NoRow, mix, HAND_TREE, "b", thing, row), 0)
            self.assertEqual(number_of(self, NoRow, mix, HAND_TREE, "b", row, thing), 1)
            self.assertEqual(number_of(self, NoRow, mix, HAND_TREE, "b", thing, thing), 0)


class Folded(unittest.TestCase):
    def test_by_hand(self):
        table = Table(["c", "a", "b"], [(row[2], row[0], row[1]) for row in HAND_ROWS])
        self.assertEqual(folded(table, HAND_TREE), ("fold", hand()))
        self.assertEqual(folded(table=table, tree=HAND_TREE), ("fold", hand()))

    def test_mixed_by_hand(self):
        tree = Tree([("a", None), ("b", None)])
        table = Table(["a", "b"], [(1, 1), (2, 2)])
        word, column, one, other = folded(table, tree)
        self.assertEqual((word, sorted([one, other])), ("mixed", [(1, 1), (2, 2)]))
        self.assertIn(column, ["a", "b"])
        self.assertIsNone(check_mixed(table, tree, ("mixed", column, one, other)))

    def test_one_row_lacks_of_a_product(self):
        for lacking in range(6):
            rows = HAND_ROWS[:lacking] + HAND_ROWS[lacking + 1:]
            table = Table(["a", "b", "c"], rows)
            told = folded(table, HAND_TREE)
            if lacking < 2:
                self.assertEqual(told[0], "fold")
            else:
                self.assertEqual(told[0], "mixed")
                self.assertIsNone(check_mixed(table, HAND_TREE, told))
                self.assertEqual(mix(HAND_TREE, told[1], told[2], told[3]), HAND_ROWS[lacking])

    def test_no_rows_and_no_columns(self):
        self.assertEqual(folded(Table(["a"]), ONE), ("fold", fold_of(ONE, [], None)))
        self.assertEqual(folded(Table(["b", "a", "c"]), HAND_TREE), ("fold", fold_of(HAND_TREE, [], None)))
        self.assertEqual(folded(Table([]), EMPTY), ("fold", fold_of(EMPTY, [], None)))
        self.assertEqual(folded(Table([], [()]), EMPTY), ("fold", fold_of(EMPTY, [], ())))

    def test_just_one_of_both_by_chance(self):
        chance = random.Random(44)
        told = {"fold": 0, "mixed": 0}
        for _ in range(600):
            tree = some_tree(chance, 4)
            columns = chance.sample(tree.columns(), len(tree))
            rows = list(itertools.product((1, 2), repeat=len(tree)))
            rows = chance.sample(rows, chance.choice([min(k, len(rows)) for k in (0, 1, 2, 3, 4, 6, 8, 16)]))
            found = folded(Table(columns, rows), tree)
            told[found[0]] += 1
            self.check(Table(columns, rows), tree, found)
        self.assertGreater(min(told.values()), 30)

    def check(self, table, tree, found):
        rows = table.of(tree.columns()).rows()
        self.assertIs(type(found), tuple)
        self.assertEqual(plain_mixed(rows, tree), found[0] == "mixed")
        if found[0] == "fold":
            self.assertEqual(unfolded(found[1]), rows)
            self.assertEqual(found[1].tree(), tree)
            self.assertEqual(fold_of(tree, found[1].bunches(), found[1].tops()), found[1])
            self.assertEqual(len(found), 2)
        else:
            _, column, one, other = found
            above = tree.above(column)
            self.assertEqual(values_at(tree, one, above), values_at(tree, other, above))
            self.assertIn(one, rows)
            self.assertIn(other, rows)
            self.assertNotIn(plain_mix(tree, column, one, other), rows)
            self.assertIsNone(check_mixed(table, tree, found))

    def test_the_rows_of_any_fold(self):
        chance = random.Random(45)
        for _ in range(150):
            tree = some_tree(chance, 5)
            fold = fold_of(tree, *some_folded(chance, tree, (1, 2, 3)))
            if fold.count() <= 300:
                columns = chance.sample(tree.columns(), len(tree))
                table = Table(tree.columns(), unfolded(fold)).of(columns)
                self.assertEqual(folded(table, tree), ("fold", fold))

    def test_three_hundred_rows(self):
        tree = Tree([(name, None if at == 0 else "abcdefgh"[at - 1]) for at, name in enumerate("abcdefgh")])
        rows = [tuple(k * 7 ** j % 11 for j in range(7)) + (k,) for k in range(300)]
        table = Table(list("abcdefgh"), rows)
        self.assertEqual(unfolded(folded(table, tree)[1]), sorted(rows))
        tops = Tree([(name, None) for name in "abcdefgh"])
        self.assertIsNone(check_mixed(table, tops, folded(table, tops)))

    def test_other_columns(self):
        for columns in [[], ["a"], ["a", "b"], ["a", "b", "d"], ["a", "b", "c", "d"]]:
            refused(self, NoColumns, folded, Table(columns), HAND_TREE)
            refused(self, NoColumns, check_mixed, Table(columns), HAND_TREE, ("mixed",))
            refused(self, NoColumns, check_mixed, Table(columns), HAND_TREE, 3)
        refused(self, NoColumns, folded, Table(["a"]), EMPTY)
        refused(self, NoColumns, folded, Table([]), ONE)


class Checked(unittest.TestCase):
    TREE = Tree([("a", None), ("b", "a"), ("c", "a")])
    TABLE = Table(["c", "b", "a"], [(1, 1, 1), (2, 2, 1), (1, 1, 2), (1, 2, 2), (2, 1, 2), (2, 2, 2)])

    def at(self, paper):
        return number_of(self, NoPaper, check_mixed, self.TABLE, self.TREE, paper)

    def test_whoever_made_it(self):
        for paper in [("mixed", "b", (1, 1, 1), (1, 2, 2)), ("mixed", "c", (1, 1, 1), (1, 2, 2)),
                      ("mixed", "b", (1, 2, 2), (1, 1, 1)), ("mixed", "c", (1, 2, 2), (1, 1, 1))]:
            self.assertIsNone(check_mixed(self.TABLE, self.TREE, paper))
            self.assertIsNone(check_mixed(table=self.TABLE, tree=self.TREE, paper=paper))

    def test_no_such_tuple(self):
        one, other = (1, 1, 1), (1, 2, 2)
        papers = ODD + [None, 0, "mixed", (), ("mixed",), ("mixed", "b", one), ["mixed", "b", one, other],
                        ("mixed", "b", one, other, other), ("fold", "b", one, other), ("Mixed", "b", one, other)]
        papers += [(thing, "b", one, other) for thing in ODD + [None, 0, ""]]
        papers += [("mixed", thing, one, other) for thing in NO_NAMES + ["x", "d"]]
        no_rows = ODD + [None, 3, "", [1, 1, 1], (), (1, 1), (1, 1, 1, 1)] + [(1, 1, thing) for thing in NO_WHOLES]
        papers += [("mixed", "b", thing, other) for thing in no_rows]
        papers += [("mixed", "b", one, thing) for thing in no_rows]
        for paper in papers:
            self.assertEqual(self.at(paper), -1)

    def test_which_comes_first(self):
        gone = (3, 1, 1)
        self.assertEqual(self.at(("mixed", "b", gone, gone)), 0)
        self.assertEqual(self.at(("mixed", "b", gone, (2, 1, 1))), 0)
        self.assertEqual(self.at(("mixed", "b", (1, 1, 1), gone)), 1)
        self.assertEqual(self.at(("mixed", "b", (1, 1, 1), (1, 1, 2))), 1)
        self.assertEqual(self.at(("mixed", "b", (1, 1, 1), (2, 2, 2))), 2)
        self.assertEqual(self.at(("mixed", "b", (1, 1, 1), (2, 1, 1))), 2)
        self.assertEqual(self.at(("mixed", "b", (2, 1, 1), (2, 2, 2))), 3)
        self.assertEqual(self.at(("mixed", "b", (1, 1, 1), (1, 1, 1))), 3)
        self.assertEqual(self.at(("mixed", "a", (1, 1, 1), (2, 2, 2))), 3)

    def test_by_chance(self):
        chance = random.Random(46)
        tree, rows = self.TREE, self.TABLE.of(["a", "b", "c"]).rows()
        for _ in range(500):
            one, other = [tuple(chance.choice((1, 2)) for _ in range(3)) for _ in range(2)]
            column = chance.choice("abc")
            above = tree.above(column)
            wrong = [one not in rows, other not in rows, values_at(tree, one, above) != values_at(tree, other, above)]
            wrong.append(plain_mix(tree, column, one, other) in rows)
            if True in wrong:
                self.assertEqual(self.at(("mixed", column, one, other)), wrong.index(True))
            else:
                self.assertIsNone(check_mixed(self.TABLE, tree, ("mixed", column, one, other)))

    def test_handed_in_stays_as_it_is(self):
        paper = ["mixed", "b", [1, 1, 1], (1, 2, 2)]
        told = copy.deepcopy(paper)
        self.at(paper)
        self.assertEqual(paper, told)
        self.assertEqual(self.TABLE.columns(), ["c", "b", "a"])
        self.assertEqual(len(self.TABLE), 6)


class Roads(unittest.TestCase):
    def come_to(self, fold, number, road):
        """The number of the bunch of the same column to which the road leads."""
        tree, bunches = fold.tree(), fold.bunches()
        column = bunches[number][0]
        way = tree.above(column) + [column]
        at = fold.tops()[tree.children().index(way[0])]
        for value, name, child in zip(road, way, way[1:]):
            at = dict(bunches[at][1])[value][tree.children(name).index(child)]
        self.assertIs(type(road), tuple)
        self.assertEqual(len(road), len(way) - 1)
        return at

    def test_by_hand(self):
        self.assertEqual(road_to(hand(), 0), ())
        self.assertIn(road_to(hand(), 1), [(1,), (4,)])
        self.assertEqual(road_to(hand(), 2), (1,))
        self.assertEqual(road_to(fold=hand(), number=3), (4,))

    def test_by_chance(self):
        chance = random.Random(47)
        for _ in range(200):
            tree = some_tree(chance)
            fold = fold_of(tree, *some_folded(chance, tree))
            for number in range(len(fold)):
                self.assertEqual(self.come_to(fold, number, road_to(fold, number)), number)

    def test_no_bunch(self):
        for thing in ODD + [None, "0", "", -1, 4, 5, -4, (), [], [0], (0,)]:
            self.assertIs(refused(self, NoBunch, road_to, hand(), thing).number, thing)
        for fold in [fold_of(ONE, [], None), fold_of(EMPTY, [], ())]:
            self.assertEqual(refused(self, NoBunch, road_to, fold, 0).number, 0)


class Parting(unittest.TestCase):
    def plain(self, bunches, one, other):
        ones, others = rows_of_bunch(bunches, one), rows_of_bunch(bunches, other)
        apart = sorted(set(ones) ^ set(others))
        if not apart:
            return None
        return ("one" if apart[0] in ones else "other", apart[0])

    def test_by_hand(self):
        self.assertEqual(parting(hand(), 2, 3), ("other", (6,)))
        self.assertEqual(parting(hand(), 3, 2), ("one", (6,)))
        self.assertIsNone(parting(fold=hand(), one=3, other=3))
        self.assertIsNone(parting(hand(), 0, 0))

    def test_by_chance(self):
        chance = random.Random(48)
        seen = 0
        for _ in range(400):
            tree = some_tree(chance, 6, 1)
            fold = fold_of(tree, *some_folded(chance, tree, (1, 2, 3)))
            bunches = fold.bunches()
            for one, other in itertools.product(range(len(bunches)), repeat=2):
                if bunches[one][0] == bunches[other][0]:
                    self.assertEqual(parting(fold, one, other), self.plain(bunches, one, other))
                    seen += one != other
        self.assertGreater(seen, 200)

    def test_parts_of_several_children(self):
        # Pairs of bunches of b that have two or three children, so that rows of products are told apart.
        chance = random.Random(49)
        tree = Tree([("a", None), ("b", "a"), ("c", "b"), ("d", "b"), ("e", "b")])
        leaves = [(name, [(v, ()) for v in told]) for name in "cde" for told in [(1,), (2,), (1, 2), (2, 3), (1, 2, 3)]]
        for _ in range(100):
            bunches = list(leaves)
            for _ in range(4):
                values = sorted(chance.sample((1, 2, 3), chance.randrange(1, 3)))
                parts = [(chance.randrange(5), chance.randrange(5, 10), chance.randrange(10, 15)) for _ in values]
                bunches.append(("b", list(zip(values, parts))))
            bunches.append(("a", [(value, (15 + value,)) for value in range(4)]))
            fold = fold_of(tree, bunches, (19,))
            told = fold.bunches()
            numbers = [number for number, bunch in enumerate(told) if bunch[0] == "b"]
            for one, other in itertools.product(numbers, numbers):
                self.assertEqual(parting(fold, one, other), self.plain(told, one, other))

    def test_no_bunch(self):
        fold = hand()
        for thing in ODD + [None, "0", "", -1, 4, 5, -4, (), [], [0], (0,)]:
            self.assertIs(refused(self, NoBunch, parting, fold, thing, 0).number, thing)
            self.assertIs(refused(self, NoBunch, parting, fold, 0, thing).number, thing)
            self.assertIs(refused(self, NoBunch, parting, fold, thing, 9).number, thing)
        for one, other in [(0, 1), (1, 0), (1, 2), (3, 1), (2, 0)]:
            self.assertEqual(refused(self, NoBunch, parting, fold, one, other).number, other)


class Bunches(unittest.TestCase):
    def test_parts_are_those_of_the_rows(self):
        chance = random.Random(50)
        for _ in range(100):
            tree = some_tree(chance, 5)
            fold = fold_of(tree, *some_folded(chance, tree))
            rows = unfolded(fold, 10 ** 9)
            for number, (column, _) in enumerate(fold.bunches()):
                part = parts_of(rows, tree, column)[road_to(fold, number)]
                self.assertEqual(tuple(rows_of_bunch(fold.bunches(), number)), part)


if __name__ == "__main__":
    unittest.main()
