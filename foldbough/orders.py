"""A fold's rows by their numbers, in the tree's order."""

from foldbough.errors import NoPlace, NoRow
from foldbough.folds import rows_below
from foldbough.kinds import is_number_below, is_row


def row_at(fold, number):
    """The row of this number."""
    if not is_number_below(number, fold.count()):
        raise NoPlace(number)
    row = ()
    bunches = fold.tops()
    while len(bunches) > 0:
        value, parts, number = _entry_at(fold, bunches, number)
        row = row + (value,)
        bunches = parts + bunches[1:]
    return row


def place_of(fold, row):
    """The number of a row; None of what is no row of the fold."""
    if not is_row(row, len(fold.tree())):
        return None
    below, there = rows_below(fold, row)
    return below if there else None


def first_from(fold, row):
    """The number of the first row that isn't below a bound, and this row; None where all rows are below."""
    _check_bound(fold, row, 0)
    below, _ = rows_below(fold, row)
    if below == fold.count():
        return None
    return (below, row_at(fold, below))


def between(fold, low, high):
    """How many rows are neither below the low bound nor above the high one."""
    _check_bound(fold, low, 0)
    _check_bound(fold, high, 1)
    if low > high:
        return 0
    first, _ = rows_below(fold, low)
    last, there = rows_below(fold, high)
    return last - first + (1 if there else 0)


def _check_bound(fold, row, at):
    if not is_row(row, len(fold.tree())):
        raise NoRow(at)


def _entry_at(fold, bunches, number):
    """Among the rows of these bunches, one behind the other, where the one of this number is.

    That is its first value, the parts behind this value, and its number among the rows with it.
    """
    behind = fold.count_behind(bunches[1:])
    for value, parts in fold.entries_of(bunches[0]):
        many = fold.count_behind(parts) * behind
        if number < many:
            return (value, parts, number)
        number -= many
