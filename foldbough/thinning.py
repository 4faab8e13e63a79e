"""Folds thinned: of values that stand alike throughout a fold only the least is left, and put back for all of them.

Two values of a column stand alike where each bunch of the column has both, with the same parts, or neither. So rows
with either are there or not, and fold or not, whatever the tree: it is enough to turn the fold that is thinned.
"""

from foldbough.folds import upward
from foldbough.stores import least_fold


def alike_values(fold):
    """By each column, by the least of values that stand alike, the list of these, rising."""
    stands = {column: {} for column in fold.tree().columns()}
    for number, column, entries in upward(fold):
        for value, parts in entries:
            stands[column].setdefault(value, []).append((number, parts))
    return {column: _alike(stands[column]) for column in stands}


def thinned(fold, alike):
    """The Fold of the rows that have only the least of values that stand alike."""
    bunches = []
    for column, entries in fold.bunches():
        bunches.append((column, [entry for entry in entries if entry[0] in alike[column]]))
    return least_fold(fold.tree(), bunches, fold.tops())


def widened(fold, alike):
    """The Fold of all rows, of a fold of those that have only the least of values that stand alike."""
    bunches = []
    for column, entries in fold.bunches():
        told = [(value, parts) for least, parts in entries for value in alike[column][least]]
        bunches.append((column, sorted(told)))
    return least_fold(fold.tree(), bunches, fold.tops())


def _alike(stands):
    """The values, rising, by the least of those of which the same is told."""
    found = {}
    for value in sorted(stands):
        found.setdefault(tuple(stands[value]), []).append(value)
    return {values[0]: values for values in list(found.values())}
