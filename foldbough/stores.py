"""Stores of bunches, each kept once, and the folds that are made of them."""

from foldbough.errors import TooMany
from foldbough.folds import Fold, downward, renumbered, upward


class Store:
    """Bunches with rows, each kept once, so that two of a column have the same rows just where they are one.

    Where more than most of them would be kept (None: however many) they are refused.
    """

    def __init__(self, most=None):
        self._most = most
        self._bunches = []
        self._numbers = {}
        self._lookups = {}

    def number_of(self, column, entries):
        """The number of the bunch of these entries, which have rows, values rising; None where there are none."""
        if len(entries) == 0:
            return None
        bunch = (column, tuple(entries))
        number = self._numbers.get(bunch)
        if number is None:
            if len(self._bunches) == self._most:
                raise TooMany(self._most)
            number = len(self._bunches)
            self._numbers[bunch] = number
            self._bunches.append(bunch)
        return number

    def tops_of(self, fold):
        """The numbers of a fold's tops, which are kept with all beneath them; None where it has no rows."""
        if fold.tops() is None:
            return None
        numbers = self.numbers_of(fold.tree(), fold.bunches())
        return tuple([numbers[top] for top in fold.tops()])

    def numbers_of(self, tree, bunches):
        """For each bunch of a folded thing the number of the one here with its rows, or None where it has none."""
        numbers = [None] * len(bunches)
        for number in downward(tree, bunches)[::-1]:
            column, entries = bunches[number]
            told = [entry for entry in renumbered(entries, numbers) if None not in entry[1]]
            numbers[number] = self.number_of(column, told)
        return numbers

    def column_of(self, number):
        """The column of the bunch of this number."""
        return self._bunches[number][0]

    def entries_of(self, number):
        """The entries of the bunch of this number, in a tuple."""
        return self._bunches[number][1]

    def parts_by_value(self, number):
        """The parts of the bunch of this number, in a dict by the values, only to be looked at."""
        if number not in self._lookups:
            self._lookups[number] = dict(self._bunches[number][1])
        return self._lookups[number]

    def fold_along(self, tree, tops):
        """The Fold of the rows of these tops, one behind the other; without rows where tops, or one, is None."""
        if tops is None or None in tops:
            return Fold(tree, [], None)
        numbers = {}
        for top in tops:
            self._number_from(top, numbers)
        told = [(self.column_of(old), renumbered(self.entries_of(old), numbers)) for old in numbers]
        return Fold(tree, told, tuple([numbers[top] for top in tops]))

    def _number_from(self, bunch, numbers):
        """Give a bunch the next number, and behind it likewise all that are come to from it."""
        if bunch in numbers:
            return
        numbers[bunch] = len(numbers)
        for value, parts in self.entries_of(bunch):
            for part in parts:
                self._number_from(part, numbers)


def least_fold(tree, bunches, tops):
    """The Fold of the rows of a folded thing along the tree."""
    store = Store()
    numbers = store.numbers_of(tree, bunches)
    return store.fold_along(tree, None if tops is None else [numbers[top] for top in tops])


def refolded(fold, tree, change):
    """The Fold along another tree of a fold whose parts beneath each column, beneath None the tops, are changed.

    What the change tells of a column and its parts are the new ones, by the fold's own numbers.
    """
    store = Store()
    numbers = {}
    for number, column, entries in upward(fold):
        told = [(value, change(column, parts)) for value, parts in entries]
        numbers[number] = store.number_of(column, renumbered(told, numbers))
    tops = fold.tops()
    if tops is not None:
        tops = [numbers[top] for top in change(None, tops)]
    return store.fold_along(tree, tops)
