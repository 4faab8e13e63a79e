"""Trees of columns: their order, what stands above and beneath, and which tables they fit."""

from foldbough.errors import NoColumn, NoColumns, NoTree
from foldbough.kinds import MOST_COLUMNS, is_name, is_name_in


class Tree:
    """Columns, each a top or right beneath another one; it never changes."""

    def __init__(self, pairs):
        told = _told_overs(pairs)
        self._columns = _in_order(told, None)
        self._over = {column: told[column] for column in self._columns}

    def columns(self):
        """The columns, in the tree's order."""
        return list(self._columns)

    def pairs(self):
        """The tuples (column, over), in the tree's order."""
        return [(column, self._over[column]) for column in self._columns]

    def over(self, column):
        """The column right above this one, or None."""
        self.check_column(column)
        return self._over[column]

    def above(self, column):
        """The columns above this one, from the top down."""
        self.check_column(column)
        found = []
        upper = self._over[column]
        while upper is not None:
            found.append(upper)
            upper = self._over[upper]
        return found[::-1]

    def beneath(self, column):
        """This column and all beneath it, in order."""
        self.check_column(column)
        return [name for name in self._columns if name == column or column in self.above(name)]

    def children(self, column=None):
        """The columns right beneath this one, in order; of None the tops."""
        if column is not None:
            self.check_column(column)
        return [name for name in self._columns if self._over[name] == column]

    def is_above(self, one, other):
        """Whether the one column is above the other."""
        self.check_column(one)
        return one in self.above(other)

    def check_column(self, column):
        """Refuse what is no column of the tree."""
        if not is_name_in(column, self._columns):
            raise NoColumn(column)

    def __len__(self):
        return len(self._columns)

    def __eq__(self, other):
        return isinstance(other, Tree) and self._columns == other._columns and self._over == other._over

    def __str__(self):
        return ",".join([_written(self, column) for column in self.children()])


def fits(tree, tables):
    """None, or the first two columns of a table of which neither is above the other."""
    for table in tables:
        _check_columns_in(tree, table)
    for table in tables:
        apart = _first_apart(tree, table.columns())
        if apart is not None:
            return apart
    return None


def tree_beside(one, other):
    """The tree of both trees' columns, the other's tops behind the one's."""
    ones = one.columns()
    if any([column in ones for column in other.columns()]):
        raise NoColumns("the trees have a column in common")
    if len(ones) + len(other.columns()) > MOST_COLUMNS:
        raise NoColumns("more than eight columns together")
    return Tree(one.pairs() + other.pairs())


def _told_overs(pairs):
    """The column right above each, or None, in the order of the pairs told."""
    if not isinstance(pairs, list):
        raise NoTree(-1)
    overs = {}
    for at, pair in enumerate(pairs):
        if at >= MOST_COLUMNS or not _is_pair(pair, overs):
            raise NoTree(at)
        overs[pair[0]] = pair[1]
    return overs


def _is_pair(thing, overs):
    """Whether it is a pair that may stand behind those told."""
    if not isinstance(thing, tuple) or len(thing) != 2:
        return False
    column, upper = thing
    if not is_name(column) or column in overs:
        return False
    return upper is None or is_name_in(upper, overs)


def _in_order(overs, upper):
    """All columns beneath a column, beneath None all, each with those beneath it behind it."""
    found = []
    for column in overs:
        if overs[column] == upper:
            found.extend([column] + _in_order(overs, column))
    return found


def _written(tree, column):
    """The column, and behind it, in brackets, its children, written likewise."""
    children = tree.children(column)
    if len(children) == 0:
        return column
    inner = ",".join([_written(tree, child) for child in children])
    return f"{column}({inner})"


def _check_columns_in(tree, table):
    columns = tree.columns()
    for column in table.columns():
        if column not in columns:
            raise NoColumn(column)


def _first_apart(tree, columns):
    """The first two of these columns of which neither is above the other, or None."""
    for at, one in enumerate(columns):
        for other in columns[at + 1:]:
            if not tree.is_above(one, other) and not tree.is_above(other, one):
                return (one, other)
    return None
