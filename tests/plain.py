"""What the tests hold the program against: trees, folded things and tables by chance, and rows gone through one by
one, straight by the document's words."""

import itertools
import random

from foldbough.folds import Fold
from foldbough.papers import fold_of, unfolded
from foldbough.tables import Table
from foldbough.trees import Tree

NAMES = ["a", "b", "c", "d", "e", "f", "g", "h"]
BIG = 10 ** 40 - 1

# Rows along a tree, and what they are folded, by hand.
HAND_TREE = Tree([("a", None), ("b", "a"), ("c", "a")])
HAND_BUNCHES = [("a", [(1, (1, 2)), (4, (1, 3))]), ("b", [(7, ()), (9, ())]), ("c", [(5, ())]),
                ("c", [(5, ()), (6, ())])]
HAND_ROWS = [(1, 7, 5), (1, 9, 5), (4, 7, 5), (4, 7, 6), (4, 9, 5), (4, 9, 6)]

EMPTY = Tree([])
ONE = Tree([("a", None)])
NO_ROWS = [fold_of(EMPTY, [], None), fold_of(ONE, [], None), fold_of(HAND_TREE, HAND_BUNCHES, None)]
UNIT = fold_of(EMPTY, [], ())


def hand():
    return fold_of(HAND_TREE, HAND_BUNCHES, (0,))


def some_tree(chance, most=6, least=0):
    names = chance.sample(NAMES, chance.randrange(least, most + 1))
    return Tree([(name, chance.choice([None] + names[:at] * 2)) for at, name in enumerate(names)])


def some_folded(chance, tree, values=(-3, 0, 1, 2, 10)):
    """Bunches and tops of a folded thing: some without entries, without rows, alike, or come to by nothing."""
    columns = tree.columns()
    owners = [column for column in columns for _ in range(chance.randrange(1, 5))]
    chance.shuffle(owners)
    numbers = {column: [at for at, owner in enumerate(owners) if owner == column] for column in columns}
    bunches = []
    for column in owners:
        least = 0 if chance.randrange(4) == 0 else 1
        told = sorted(chance.sample(values, chance.randrange(least, min(4, len(values) + 1))))
        children = tree.children(column)
        entries = [(value, tuple(chance.choice(numbers[child]) for child in children)) for value in told]
        bunches.append((column, entries))
    tops = tuple(chance.choice(numbers[top]) for top in tree.children())
    return bunches, (None if chance.randrange(20) == 0 else tops)


def some_folds(seed, many, most=5, values=(-3, 0, 1, 2, 10)):
    """Folds by chance, each with its rows."""
    chance = random.Random(seed)
    for _ in range(many):
        tree = some_tree(chance, most)
        fold = fold_of(tree, *some_folded(chance, tree, values))
        yield chance, fold, unfolded(fold, 10 ** 9)


def rows_of_parts(bunches, parts):
    return [sum(row, ()) for row in itertools.product(*[rows_of_bunch(bunches, part) for part in parts])]


def rows_of_bunch(bunches, number):
    """The rows of a bunch: for each entry each row that is the value and, behind it, a row of each part."""
    return [(value,) + behind for value, parts in bunches[number][1] for behind in rows_of_parts(bunches, parts)]


def rows_of(bunches, tops):
    """The rows of a folded thing."""
    return [] if tops is None else rows_of_parts(bunches, tops)


def values_at(tree, row, columns):
    order = tree.columns()
    return tuple(row[order.index(column)] for column in columns)


def parts_of(rows, tree, column):
    """For each row over the columns above, what the rows with it have at the column and beneath it, rising."""
    found = {}
    for row in rows:
        above = values_at(tree, row, tree.above(column))
        found.setdefault(above, set()).add(values_at(tree, row, tree.beneath(column)))
    return {above: tuple(sorted(part)) for above, part in sorted(found.items())}


def goes_with(row, tree, table):
    """Whether a row over the tree's columns is alike a row of the table at all of the table's columns."""
    return table.has(values_at(tree, row, table.columns()))


def answer(tables, tree):
    """All rows over the tree's columns that go with a row of each table, by trying all values at each column."""
    values = []
    for column in tree.columns():
        at = [(table, table.columns().index(column)) for table in tables if column in table.columns()]
        values.append(sorted({row[place] for table, place in at for row in table.rows()}))
    return [row for row in itertools.product(*values) if all(goes_with(row, tree, table) for table in tables)]


def some_tables(chance, tree, values=(1, 2, 3), thin=4):
    """Tables whose columns lie on ways down, and among them stand all columns of the tree."""
    tables = []
    for column in tree.columns():
        if len(tree.children(column)) == 0 or chance.randrange(3) == 0:
            way = tree.above(column)
            upper = chance.sample(way, chance.randrange(len(way) + 1))
            tables.append(some_table(chance, upper + [column], values, thin))
    told = {name for table in tables for name in table.columns()}
    for column in tree.columns():
        if column not in told:
            tables.append(some_table(chance, [column], values, thin))
    if chance.randrange(6) == 0:
        tables.append(Table([], [()]))
    if chance.randrange(20) == 0:
        tables.append(Table([]))
    if tables and chance.randrange(4) == 0:
        tables.append(chance.choice(tables))
    chance.shuffle(tables)
    return tables


def some_table(chance, columns, values, thin):
    chance.shuffle(columns)
    rows = list(itertools.product(values, repeat=len(columns)))
    return Table(columns, [row for row in rows if chance.randrange(thin) > 0][:40])


def tree_of(chance, names):
    """A tree by chance of just these columns."""
    names = chance.sample(names, len(names))
    return Tree([(name, chance.choice([None] + names[:at] * 2)) for at, name in enumerate(names)])


def along(rows, tree, other):
    """The rows along one tree with their values in another tree's order, rising."""
    return sorted(values_at(tree, row, other.columns()) for row in rows)


def plain_fold(tree, rows):
    """The bunches and tops of the Fold of rows that fold: a bunch for each unlike part, numbered as one comes."""
    bunches, numbers = [], {}

    def numbers_of(columns, order, part):
        found = []
        for column in columns:
            at = order.index(column)
            found.append(number_of(column, {row[at:at + len(tree.beneath(column))] for row in part}))
        return tuple(found)

    def number_of(column, part):
        key = (column, frozenset(part))
        if key not in numbers:
            numbers[key] = len(bunches)
            bunches.append((column, []))
            for value in sorted({row[0] for row in part}):
                here = [row for row in part if row[0] == value]
                parts = numbers_of(tree.children(column), tree.beneath(column), here)
                bunches[numbers[key]][1].append((value, parts))
        return numbers[key]

    return bunches, (numbers_of(tree.children(), tree.columns(), rows) if rows else None)


def plain_mix(tree, column, one, other):
    beneath = tree.beneath(column)
    return tuple(other[at] if name in beneath else one[at] for at, name in enumerate(tree.columns()))


def is_bar(tree, rows, column, one, other):
    """Whether both are rows, alike above the column, and their mix is none."""
    above = tree.above(column)
    if one not in rows or other not in rows or values_at(tree, one, above) != values_at(tree, other, above):
        return False
    return plain_mix(tree, column, one, other) not in rows


def are_barred(tree, rows):
    """Whether two of the rows have a mix that is none of them."""
    there = set(rows)
    return any(is_bar(tree, there, column, one, other)
               for column in tree.columns() for one in rows for other in rows)


def check_fold(test, fold, tree, rows):
    """That it is the Fold of just these rows along this tree."""
    rows = sorted(rows)
    test.assertIs(type(fold), Fold)
    test.assertEqual(fold.tree(), tree)
    test.assertEqual(str(fold.tree()), str(tree))
    test.assertEqual((fold.bunches(), fold.tops()), plain_fold(tree, rows))
    test.assertEqual(fold.count(), len(rows))


def check_one_of_both(test, told, tree, rows):
    """That a fold of these rows along this tree is told, or a mix that bars it, just where there is one; which."""
    test.assertIs(type(told), tuple)
    if told[0] == "fold":
        test.assertEqual(len(told), 2)
        test.assertFalse(are_barred(tree, rows))
        check_fold(test, told[1], tree, rows)
        return "fold"
    test.assertEqual((told[0], len(told)), ("mixed", 4))
    test.assertTrue(is_bar(tree, set(rows), *told[1:]))
    return "mixed"
