"""Walkers, which go through a fold's rows without writing out any but those told."""

from foldbough.errors import NoPlace
from foldbough.kinds import is_whole
from foldbough.orders import first_from, row_at


class Walker:
    """Stands at a row of a fold, at first at that of number 0."""

    def __init__(self, fold):
        self._fold = fold
        self._number = 0

    def row(self):
        """The row at which it stands; None where the fold has no rows."""
        if self._fold.tops() is None:
            return None
        return row_at(self._fold, self._number)

    def where(self):
        """The number of the row at which it stands."""
        return self._number

    def step(self, many=1):
        """Go on by so many rows, and tell the row come to."""
        _check_many(many)
        return self._come_to(self._number + many)

    def back(self, many=1):
        """Go back by so many rows, and tell the row come to."""
        _check_many(many)
        return self._come_to(self._number - many)

    def to(self, row):
        """Go to the first row that isn't below a bound, and tell it."""
        found = first_from(self._fold, row)
        if found is None:
            raise NoPlace(self._fold.count())
        self._number = found[0]
        return found[1]

    def twin(self):
        """Another walker, at the same row."""
        other = Walker(self._fold)
        other._number = self._number
        return other

    def _come_to(self, number):
        row = row_at(self._fold, number)
        self._number = number
        return row


def _check_many(many):
    if not is_whole(many) or many < 0:
        raise NoPlace(many)
