"""Points 0.1 to 0.3 over the whole program: by the functions, at a keeper and by a desk one answer is told."""

import itertools
import random
import unittest

from foldbough.algebra import beside, brought, kept, met, within, without
from foldbough.costs import greatest, least
from foldbough.desk import Desk
from foldbough.joins import check_places, fold_join, places
from foldbough.keeper import Keeper
from foldbough.lightest import lightest
from foldbough.orders import place_of, row_at
from foldbough.papers import check_mixed, folded, parting, road_to, single, unfolded
from foldbough.sums import by, product_of, sum_of, total
from foldbough.tables import Table, joined, kept_rows
from foldbough.texts import read_fold, read_table, read_tree, show_fold, show_table, show_tree
from foldbough.trees import Tree
from foldbough.turns import lifted, lowered, swung, turned_to
from foldbough.unions import less, put_in, took_out, united
from foldbough.walker import Walker
from tests.plain import along, check_fold, some_tables, some_tree, tree_of, values_at


def written(row):
    return ",".join(str(value) for value in row) or "-"


def some_answers(seed, many):
    """Tables that bring something together along a tree, with the rows of the answer."""
    chance = random.Random(seed)
    while many > 0:
        tree = some_tree(chance, 5, 1)
        tables = some_tables(chance, tree)[:6]
        if {name for table in tables for name in table.columns()} == set(tree.columns()):
            rows = joined(tables).of(tree.columns()).rows()
            if 1 < len(rows) <= 120:
                many -= 1
                yield chance, tables, tree, rows


class Doors(unittest.TestCase):
    def test_one_answer(self):
        for chance, tables, tree, rows in some_answers(171, 60):
            tables = [read_table(show_table(table)) for table in tables]
            tree = read_tree(show_tree(tree))
            fold = fold_join(tables, tree)
            check_fold(self, fold, tree, rows)
            self.assertEqual(read_fold(show_fold(fold)), fold)
            self.assertIs(check_places(tables, tree, fold, places(tables, tree)), True)
            keeper, desk = self.told_all(chance, tables, tree)
            self.assertEqual(keeper.fold("q"), fold)
            self.assertEqual(desk.say("fold q"), show_fold(fold))
            self.check_numbers(desk, fold, rows)
            self.check_sums(desk, fold, rows)
            self.check_turns(chance, desk, fold, rows)

    def told_all(self, chance, tables, tree):
        """A keeper and a desk that are told these tables row by row, with rows that are taken out again."""
        keeper, desk = Keeper(), Desk()
        names = ["t" + "abcdef"[at] for at in range(len(tables))]
        lines = [f"table {name} {','.join(table.columns()) or '-'}" for name, table in zip(names, tables)]
        lines.append(f"ask q {','.join(names) or '-'} {tree if len(tree) else '-'}")
        for name, table in zip(names, tables):
            keeper.table(name, table.columns())
        keeper.ask("q", names, tree)
        deeds = [(name, row) for name, table in zip(names, tables) for row in table.rows()]
        chance.shuffle(deeds)
        for line in lines:
            self.assertEqual(desk.say(line), "ok")
        for name, row in deeds:
            told = keeper.put(name, row)
            self.assertEqual(desk.say(f"put {name} {written(row)}"), self.of_places(told))
            if chance.randrange(4) == 0:
                self.assertEqual(keeper.take(name, row), told)
                self.assertEqual(keeper.undo(), told)
        for name, table in zip(names, tables):
            self.assertEqual(desk.say(f"show {name}"), show_table(table))
            self.assertEqual(keeper.table_of(name), table)
        return keeper, desk

    def of_places(self, told):
        return "; ".join(f"{question} {column} {written(keys)}" for question, column, keys in told) or "-"

    def check_numbers(self, desk, fold, rows):
        self.assertEqual(unfolded(fold), rows)
        self.assertEqual(desk.say("rows q"), "; ".join(map(written, rows)))
        self.assertEqual(desk.say("count q"), f"{len(rows)} {len(fold)} {fold.weight()}")
        walker = Walker(fold)
        for number, row in enumerate(rows):
            self.assertEqual((walker.row(), walker.where()), (row, number))
            self.assertEqual(desk.say(f"row q {number}"), written(row))
            self.assertEqual(desk.say(f"place q {written(row)}"), str(number))
            if number < len(rows) - 1:
                walker.step()

    def check_sums(self, desk, fold, rows):
        columns = fold.tree().columns()
        for at, column in enumerate(columns):
            self.assertEqual(desk.say(f"sum q {column}"), str(sum(row[at] for row in rows)))
            many = {}
            for row in rows:
                many[row[at]] = many.get(row[at], 0) + 1
            self.assertEqual(desk.say(f"by q {column}"), " ".join(f"{value}:{many[value]}" for value in sorted(many)))
            self.assertEqual(dict(by(fold, column)), many)
            self.assertEqual(sum_of(fold, column), product_of(fold, [column]))
        costs = {(column, value): value * value - 3 for column in columns for value in range(5)}
        told = [(sum(costs[pair] for pair in zip(columns, row)), row) for row in rows]
        self.assertEqual(least(fold, costs), min(told))
        self.assertEqual(greatest(fold, costs)[0], max(told)[0])
        worth = 0
        for row in rows:
            product = 1
            for pair in zip(columns, row):
                product *= costs[pair]
            worth += product
        self.assertEqual(total(fold, costs), worth)

    def check_turns(self, chance, desk, fold, rows):
        tree = tree_of(chance, fold.tree().columns())
        told = turned_to(fold, tree)
        line = desk.say(f"turn q {tree}")
        if told[0] == "fold":
            self.assertEqual(line, f"fold {len(told[1])} {told[1].weight()}")
            check_fold(self, told[1], tree, along(rows, fold.tree(), tree))
            self.assertEqual(turned_to(told[1], fold.tree()), ("fold", fold))
        else:
            self.assertEqual(line, f"mixed {told[1]} {written(told[2])} {written(told[3])}")
            table = Table(tree.columns(), along(rows, fold.tree(), tree))
            self.assertIsNone(check_mixed(table, tree, told))
            self.assertEqual(folded(table, tree)[0], "mixed")
        self.assertEqual(desk.say("light q"), str(lightest(fold)[0].tree()))


class OneFold(unittest.TestCase):
    """However rows are come to, there is just one Fold of them along a tree, and papers show that it is the least."""

    def test_least(self):
        for _, tables, tree, rows in some_answers(172, 60):
            fold = fold_join(tables, tree)
            parts = {}
            for row in rows:
                for column in tree.columns():
                    key = (column, values_at(tree, row, tree.above(column)))
                    parts.setdefault(key, set()).add(values_at(tree, row, tree.beneath(column)))
            for number, (column, _) in enumerate(fold.bunches()):
                self.assertIn((column, road_to(fold, number)), parts)
            for one, other in itertools.combinations(range(len(fold)), 2):
                columns = [fold.bunches()[number][0] for number in (one, other)]
                if columns[0] == columns[1]:
                    which, row = parting(fold, one, other)
                    told = [row in parts[(columns[0], road_to(fold, number))] for number in (one, other)]
                    self.assertEqual(told, [which == "one", which == "other"])

    def test_by_many_ways(self):
        for chance, tables, tree, rows in some_answers(173, 60):
            fold = fold_join(tables, tree)
            column = chance.choice(tree.columns())
            middle = chance.choice(rows)[tree.columns().index(column)]
            low, high = kept(fold, column, -9, middle), kept(fold, column, middle + 1, 9)
            table = Table(tree.columns(), rows)
            self.assertEqual(("fold", low), folded(kept_rows(table, column, -9, middle), tree))
            self.assertEqual(united(low, high), ("fold", fold))
            self.assertEqual(less(fold, high), ("fold", low))
            self.assertEqual(met(fold, low), low)
            self.assertIsNone(within(high, fold))
            self.assertEqual(brought(fold, low), low)
            self.assertEqual(self.row_by_row(chance, tree, rows), fold)
            both = beside(single(Tree([("x", None)]), (1,)), fold)
            self.assertEqual(without(both, "x"), fold)
            self.assertEqual(without(lowered(both, "x", column), "x"), fold)

    def row_by_row(self, chance, tree, rows):
        """The Fold of the rows, put in one after the other in an order in which no mix bars it, or all at once."""
        fold = folded(Table(tree.columns()), tree)[1]
        left = list(rows)
        while left:
            row = left.pop(0)
            told = put_in(fold, row)
            if told[0] == "mixed":
                return folded(Table(tree.columns(), rows), tree)[1]
            self.assertEqual(took_out(told[1], row), ("fold", fold))
            fold = told[1]
        return fold

    def test_tables_brought_together_as_folds(self):
        together = 0
        for _, tables, tree, rows in some_answers(174, 80):
            # Each table stands along its own way down, and these are brought together where they fit.
            fold = None
            for table in tables:
                way = [name for name in tree.columns() if name in table.columns()]
                line = Tree([(name, way[at - 1] if at else None) for at, name in enumerate(way)])
                part = folded(table, line)[1]
                if fold is None:
                    fold = part
                elif all(fold.tree().over(name) == line.over(name) for name in way if name in fold.tree().columns()):
                    fold = brought(fold, part)
                else:
                    fold = None
                    break
            if fold is not None and str(fold.tree()) == str(tree):
                check_fold(self, fold, tree, rows)
                self.assertEqual(fold, fold_join(tables, tree))
                together += 1
        self.assertGreater(together, 10)

    def test_turned_round(self):
        for chance, tables, tree, rows in some_answers(175, 60):
            fold = fold_join(tables, tree)
            for _ in range(4):
                lower = [column for column, over in fold.tree().pairs() if over is not None]
                if not lower:
                    break
                column = chance.choice(lower)
                upper = fold.tree().over(column)
                told = lifted(fold, column)
                if told[0] == "fold":
                    self.assertEqual(turned_to(lowered(told[1], column, upper), fold.tree()), ("fold", fold))
                    fold = told[1]
                else:
                    fold = swung(fold, column)
                check_fold(self, fold, fold.tree(), along(rows, tree, fold.tree()))


if __name__ == "__main__":
    unittest.main()
