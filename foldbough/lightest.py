"""Folds along the tree to which column after column can be lifted."""

from foldbough.turns import lifted


def lightest(fold):
    """The fold behind all liftings that can be, and what bars that of each column that isn't a top then."""
    found = _first_lifted(fold)
    while found is not None:
        fold = found
        found = _first_lifted(fold)
    return (fold, [lifted(fold, column) for column in _lower_columns(fold)])


def _lower_columns(fold):
    """The columns that are no tops, in the tree's order."""
    return [column for column, upper in fold.tree().pairs() if upper is not None]


def _first_lifted(fold):
    """The fold with the first column lifted that can be, or None."""
    for column in _lower_columns(fold):
        told = lifted(fold, column)
        if told[0] == "fold":
            return told[1]
    return None
