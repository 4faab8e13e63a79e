"""Rows healed: the fewest rows along a tree that hold a table's and that fold."""

from foldbough.errors import NoColumns
from foldbough.stands import Stands, answer_of, come_places


def healed(table, tree):
    """The rows that along each way down are alike some row of the table, folded."""
    check_same_columns(table, tree)
    lowest = [column for column in tree.columns() if len(tree.children(column)) == 0]
    # A table of no columns tells whether there are rows, also where the tree has no way down.
    ways = [[]] + [tree.above(column) + [column] for column in lowest]
    stands = Stands([table.of(way) for way in ways], tree)
    _, bunches = come_places(stands, None)
    return answer_of(stands, bunches)


def check_same_columns(table, tree):
    """Refuse a table whose columns are not just the tree's."""
    if sorted(table.columns()) != sorted(tree.columns()):
        raise NoColumns("the table's columns are not just the tree's")
