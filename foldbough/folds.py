"""Folds: rows kept as sums of products along a tree of columns, each part once."""

from foldbough.errors import NoRow
from foldbough.kinds import is_row


class Fold:
    """The least folded thing of some rows; a store alone makes it, and it never changes."""

    def __init__(self, tree, bunches, tops):
        self._tree = tree
        # The entries stand in tuples, so that they can be lent without a copy.
        self._bunches = [(column, tuple(entries)) for column, entries in bunches]
        self._tops = tops
        self._counts = weighed(tree, bunches, each_one)

    def tree(self):
        """The tree along which it is folded."""
        return self._tree

    def bunches(self):
        """The bunches, by their numbers: tuples (column, entries)."""
        return [(column, list(entries)) for column, entries in self._bunches]

    def tops(self):
        """The number of each top column's bunch, in order; None where there are no rows."""
        return self._tops

    def count(self):
        """How many rows there are."""
        if self._tops is None:
            return 0
        return self.count_behind(self._tops)

    def weight(self):
        """How many entries all bunches have together."""
        return sum([len(entries) for column, entries in self._bunches])

    def has(self, row):
        """Whether this row, in the tree's order, is there."""
        if not is_row(row, len(self._tree)):
            raise NoRow(0)
        _, there = rows_below(self, row)
        return there

    def column_of(self, number):
        """The column of the bunch of this number."""
        return self._bunches[number][0]

    def entries_of(self, number):
        """The entries of the bunch of this number, in a tuple."""
        return self._bunches[number][1]

    def count_behind(self, parts):
        """How many rows these bunches have, a row of each behind one another."""
        return product_at(self._counts, parts)

    def __len__(self):
        return len(self._bunches)

    def __eq__(self, other):
        if not isinstance(other, Fold):
            return False
        return self._tree == other._tree and self._bunches == other._bunches and self._tops == other._tops

    def __str__(self):
        return f"{self.count()} rows in {len(self._bunches)} bunches"


def downward(tree, bunches):
    """The numbers of the bunches, each ahead of those of its parts."""
    # By columns, for a bunch may have a lower number than one that it is a part of.
    found = {column: [] for column in tree.columns()}
    for number, bunch in enumerate(bunches):
        found[bunch[0]].append(number)
    return [number for column in tree.columns() for number in found[column]]


def upward(fold):
    """The bunches of a fold, as tuples (number, column, entries), each behind those of its parts."""
    bunches = fold.bunches()
    return [(number, bunches[number][0], bunches[number][1]) for number in downward(fold.tree(), bunches)[::-1]]


def weighed(tree, bunches, weigh):
    """For each bunch the sum, over its rows, of the product of what their values weigh at their columns."""
    sums = [0] * len(bunches)
    for number in downward(tree, bunches)[::-1]:
        column, entries = bunches[number]
        sums[number] = sum([weigh(column, value) * product_at(sums, parts) for value, parts in entries])
    return sums


def each_one(column, value):
    """What each value weighs where rows are counted."""
    return 1


def product_at(numbers, places):
    """The product of the numbers that stand at these places of a list."""
    found = 1
    for place in places:
        found *= numbers[place]
    return found


def rows_below(fold, row):
    """How many rows of the fold are below this one, and whether it is there."""
    if fold.tops() is None:
        return (0, False)
    below = 0
    # The tree's order goes through the bunches just as their values stand in the row.
    bunches = fold.tops()
    for value in row:
        behind = fold.count_behind(bunches[1:])
        found = None
        for told, parts in fold.entries_of(bunches[0]):
            if told < value:
                below += fold.count_behind(parts) * behind
            elif told == value:
                found = parts
        if found is None:
            return (below, False)
        bunches = found + bunches[1:]
    return (below, True)


def renumbered(entries, numbers):
    """The entries, their parts by other numbers, told by those that they have."""
    return [(value, tuple([numbers[part] for part in parts])) for value, parts in entries]


def first_row(fold, parts):
    """The first of the rows of these bunches, one behind the other, of a fold or a store."""
    row = ()
    for part in parts:
        value, beneath = fold.entries_of(part)[0]
        row = row + (value,) + first_row(fold, beneath)
    return row
