"""What the tests hold the program against: trees, folded things and tables by chance, and rows gone through one by
one, straight by the document's words."""

import itertools

from foldbough.tables import Table
from foldbough.trees import Tree

NAMES = ["a", "b", "c", "d", "e", "f", "g", "h"]
BIG = 10 ** 40 - 1

# Rows along a tree, and what they are folded, by hand.
HAND_TREE = Tree([("a", None), ("b", "a"), ("c", "a")])
HAND_BUNCHES = [("a", [(1, (1, 2)), (4, (1, 3))]), ("b", [(7, ()), (9, ())]), ("c", [(5, ())]),
                ("c", [(5, ()), (6, ())])]
HAND_ROWS = [(1, 7, 5), (1, 9, 5), (4, 7, 5), (4, 7, 6), (4, 9, 5), (4, 9, 6)]


def some_tree(chance, most=6, least=0):
    names = chance.sample(NAMES, chance.randrange(least, most + 1))
    return Tree([(name, chance.choice([None] + names[:at] * 2)) for at, name in enumerate(names)])


def some_folded(chance, tree, values=(-3, 0, 1, 2, 10)):
    """Bunches and tops of a folded thing: some without entries, without rows, alike, or come to by nothing."""
    columns = tree.columns()
    owners = [column for column in columns for _ in range(chance.randrange(1, 5))]
    chance.shuffle(owners)
    numbers = {column: [at for at, owner in enumerate(owners) if owner == column] for column in columns}
    bunches = []
    for column in owners:
        least = 0 if chance.randrange(4) == 0 else 1
        told = sorted(chance.sample(values, chance.randrange(least, min(4, len(values) + 1))))
        children = tree.children(column)
        entries = [(value, tuple(chance.choice(numbers[child]) for child in children)) for value in told]
        bunches.append((column, entries))
    tops = tuple(chance.choice(numbers[top]) for top in tree.children())
    return bunches, (None if chance.randrange(20) == 0 else tops)


def rows_of_parts(bunches, parts):
    return [sum(row, ()) for row in itertools.product(*[rows_of_bunch(bunches, part) for part in parts])]


def rows_of_bunch(bunches, number):
    """The rows of a bunch: for each entry each row that is the value and, behind it, a row of each part."""
    return [(value,) + behind for value, parts in bunches[number][1] for behind in rows_of_parts(bunches, parts)]


def rows_of(bunches, tops):
    """The rows of a folded thing."""
    return [] if tops is None else rows_of_parts(bunches, tops)


def values_at(tree, row, columns):
    order = tree.columns()
    return tuple(row[order.index(column)] for column in columns)


def parts_of(rows, tree, column):
    """For each row over the columns above, what the rows with it have at the column and beneath it, rising."""
    found = {}
    for row in rows:
        above = values_at(tree, row, tree.above(column))
        found.setdefault(above, set()).add(values_at(tree, row, tree.beneath(column)))
    return {above: tuple(sorted(part)) for above, part in sorted(found.items())}


def goes_with(row, tree, table):
    """Whether a row over the tree's columns is alike a row of the table at all of the table's columns."""
    return table.has(values_at(tree, row, table.columns()))


def answer(tables, tree):
    """All rows over the tree's columns that go with a row of each table, by trying all values at each column."""
    values = []
    for column in tree.columns():
        at = [(table, table.columns().index(column)) for table in tables if column in table.columns()]
        values.append(sorted({row[place] for table, place in at for row in table.rows()}))
    return [row for row in itertools.product(*values) if all(goes_with(row, tree, table) for table in tables)]


def some_tables(chance, tree, values=(1, 2, 3), thin=4):
    """Tables whose columns lie on ways down, and among them stand all columns of the tree."""
    tables = []
    for column in tree.columns():
        if len(tree.children(column)) == 0 or chance.randrange(3) == 0:
            way = tree.above(column)
            upper = chance.sample(way, chance.randrange(len(way) + 1))
            tables.append(some_table(chance, upper + [column], values, thin))
    told = {name for table in tables for name in table.columns()}
    for column in tree.columns():
        if column not in told:
            tables.append(some_table(chance, [column], values, thin))
    if chance.randrange(6) == 0:
        tables.append(Table([], [()]))
    if chance.randrange(20) == 0:
        tables.append(Table([]))
    if tables and chance.randrange(4) == 0:
        tables.append(chance.choice(tables))
    chance.shuffle(tables)
    return tables


def some_table(chance, columns, values, thin):
    chance.shuffle(columns)
    rows = list(itertools.product(values, repeat=len(columns)))
    return Table(columns, [row for row in rows if chance.randrange(thin) > 0][:40])
