"""The one way down: a fold's rows folded along a tree in which each column stands beneath the one ahead of it."""

from foldbough.stores import Store
from foldbough.trees import Tree


class Rests:
    """What is left of a fold's rows where columns are told values, one after the other.

    A rest is kept along the fold's tree, its told columns having 0, so that two rests of the same columns have the
    same rows just where their tops are alike.
    """

    def __init__(self, fold):
        self._store = Store()
        self._whole = self._store.tops_of(fold)
        self._places = _places_on_ways(fold.tree())
        self._leading = {}
        self._told = {}

    def whole(self):
        """The tops where no column is told a value."""
        return self._whole

    def values_at(self, tops, column):
        """The values that the rows of a rest have at a column, rising."""
        return sorted(self._entries_to(tops[self._places[(None, column)]], column))

    def behind(self, tops, column, value):
        """The tops of the rest of the rows that have the value at the column."""
        return self._with_part_told(None, tops, column, value)

    def _entries_to(self, number, column):
        """For each value that the column has in a bunch's rows, the bunch's entries that lead to it."""
        key = (number, column)
        if key not in self._leading:
            self._leading[key] = self._find_entries_to(number, column)
        return self._leading[key]

    def _find_entries_to(self, number, column):
        own = self._store.column_of(number)
        found = {}
        if own == column:
            for entry in self._store.entries_of(number):
                found[entry[0]] = [entry]
            return found
        at = self._places[(own, column)]
        for entry in self._store.entries_of(number):
            for value in self._entries_to(entry[1][at], column):
                found.setdefault(value, []).append(entry)
        return found

    def _bunch_told(self, number, column, value):
        """The bunch of the rows of a bunch that have the value at the column."""
        key = (number, column, value)
        if key not in self._told:
            own = self._store.column_of(number)
            entries = self._entries_to(number, column)[value]
            if own == column:
                told = [(0, parts) for _, parts in entries]
            else:
                told = [(upper, self._with_part_told(own, parts, column, value)) for upper, parts in entries]
            self._told[key] = self._store.number_of(own, told)
        return self._told[key]

    def _with_part_told(self, upper, parts, column, value):
        at = self._places[(upper, column)]
        return parts[:at] + (self._bunch_told(parts[at], column, value),) + parts[at + 1:]


def _places_on_ways(tree):
    """For each column, by it and each one above it, also None, where the way on to it stands among the children."""
    found = {}
    for column in tree.columns():
        upper = None
        for step in tree.above(column) + [column]:
            found[(upper, column)] = tree.children(upper).index(step)
            upper = step
    return found


def way_down(fold, columns, most):
    """The Fold of a fold's rows along the one way down of its columns, in this order, of at most most bunches."""
    tree = Tree([(column, columns[at - 1] if at > 0 else None) for at, column in enumerate(columns)])
    store = Store(most)
    if fold.tops() is None or len(columns) == 0:
        return store.fold_along(tree, fold.tops())
    rests = Rests(fold)
    return store.fold_along(tree, (_rest_folded(rests, columns, rests.whole(), store, {}),))


def _rest_folded(rests, columns, tops, store, known):
    """The number of the bunch of a rest over these columns, those that are not told values yet."""
    key = (len(columns), tops)
    if key not in known:
        column, beneath = columns[0], columns[1:]
        entries = []
        for value in rests.values_at(tops, column):
            parts = ()
            if len(beneath) > 0:
                parts = (_rest_folded(rests, beneath, rests.behind(tops, column, value), store, known),)
            entries.append((value, parts))
        known[key] = store.number_of(column, entries)
    return known[key]
