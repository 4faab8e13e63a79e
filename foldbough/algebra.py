"""Folds made of folds: rows kept, a column left out, the rows of two brought together, and looked for in each other."""

from foldbough.errors import NoColumns, NoFit, NoStretch, NoTurn
from foldbough.folds import first_row
from foldbough.kinds import MOST_COLUMNS, is_stretch
from foldbough.pairs import Pairs
from foldbough.stores import Store, least_fold, refolded
from foldbough.trees import Tree, tree_beside


class Both:
    """Brings the bunches of two folds together along a tree, each two once.

    A column is common where both folds' trees have it, and then it stands beneath the same columns in both.
    """

    def __init__(self, tree, one, other):
        self._tree = tree
        self._store = Store()
        self._ways = {column: _places_beneath(column, tree, one.tree(), other.tree()) for column in tree.columns()}
        self._ways[None] = _places_beneath(None, tree, one.tree(), other.tree())
        self._known_parts = {}
        self._known_bunches = {}

    def fold(self, one, other):
        """The Fold of both folds' rows brought together."""
        ones, others = self._store.tops_of(one), self._store.tops_of(other)
        if ones is None or others is None:
            return self._store.fold_along(self._tree, None)
        return self._store.fold_along(self._tree, self._parts(None, ones, others))

    def _parts(self, column, ones, others):
        """The parts right beneath a common column, None of those without rows; of None the tops."""
        key = (column, ones, others)
        if key not in self._known_parts:
            self._known_parts[key] = self._find_parts(column, ones, others)
        return self._known_parts[key]

    def _find_parts(self, column, ones, others):
        found = []
        for one_at, other_at in self._ways[column]:
            if other_at is None:
                found.append(ones[one_at])
            elif one_at is None:
                found.append(others[other_at])
            else:
                found.append(self._bunch(ones[one_at], others[other_at]))
        return tuple(found)

    def _bunch(self, one, other):
        """The number of the bunch of two bunches of a common column; None where it has no rows."""
        if (one, other) not in self._known_bunches:
            self._known_bunches[(one, other)] = self._find_bunch(one, self._store.parts_by_value(other))
        return self._known_bunches[(one, other)]

    def _find_bunch(self, one, others):
        column = self._store.column_of(one)
        entries = []
        for value, parts in self._store.entries_of(one):
            if value in others:
                told = self._parts(column, parts, others[value])
                if None not in told:
                    entries.append((value, told))
        return self._store.number_of(column, entries)


def kept(fold, column, low, high):
    """The Fold of the rows whose value in the column is from low to high."""
    tree = fold.tree()
    tree.check_column(column)
    if not is_stretch(low, high):
        raise NoStretch("a stretch goes from a whole number to one that is not below it")
    bunches = []
    for told, entries in fold.bunches():
        if told == column:
            entries = [entry for entry in entries if low <= entry[0] <= high]
        bunches.append((told, entries))
    return least_fold(tree, bunches, fold.tops())


def without(fold, column):
    """The Fold, along the tree without this column, of what the rows have in all others."""
    tree = fold.tree()
    upper = tree.over(column)
    if len(tree.children(column)) > 0:
        raise NoTurn(column)
    at = tree.children(upper).index(column)
    rest = Tree([pair for pair in tree.pairs() if pair[0] != column])
    return refolded(fold, rest, lambda told, parts: parts[:at] + parts[at + 1:] if told == upper else parts)


def beside(one, other):
    """The Fold of each row of the one with each row of the other behind it."""
    return Both(tree_beside(one.tree(), other.tree()), one, other).fold(one, other)


def brought(one, other):
    """The Fold of all rows over the columns of both that go with a row of each."""
    ones, others = one.tree(), other.tree()
    names = others.columns()
    for column, upper in ones.pairs():
        if column in names and others.over(column) != upper:
            raise NoFit(column, upper)
    names = ones.columns()
    pairs = ones.pairs() + [pair for pair in others.pairs() if pair[0] not in names]
    if len(pairs) > MOST_COLUMNS:
        raise NoColumns("more than eight columns together")
    return Both(Tree(pairs), one, other).fold(one, other)


def met(one, other):
    """The Fold of the rows that both have."""
    check_one_tree(one, other)
    return Both(one.tree(), one, other).fold(one, other)


def within(one, other):
    """None where the other has each row of the one, else the first row that the other lacks."""
    check_one_tree(one, other)
    store = Store()
    ones, others = store.tops_of(one), store.tops_of(other)
    if ones is None:
        return None
    if others is None:
        return first_row(store, ones)
    return Pairs(store).first_alone(ones, others)


def check_one_tree(one, other):
    """Refuse two folds that don't stand along the same tree."""
    if not one.tree() == other.tree():
        raise NoColumns("the folds stand along unlike trees")


def _places_beneath(column, tree, one, other):
    """For each child of a column, or each top, where it stands among the one tree's, and among the other's, or None."""
    ones, others = _children_in(one, column), _children_in(other, column)
    children = tree.children(column)
    return [(_place_in(ones, child), _place_in(others, child)) for child in children]


def _children_in(tree, column):
    """The children of a column in a tree that may not have it."""
    if column is not None and column not in tree.columns():
        return []
    return tree.children(column)


def _place_in(names, name):
    return names.index(name) if name in names else None
