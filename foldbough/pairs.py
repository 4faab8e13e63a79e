"""Bunches of a store beside each other: what both of two have, and what the one has alone."""

from foldbough.folds import first_row


class Pairs:
    """Answers about two bunches of a column, or two tuples of bunches of the same columns, each found once."""

    def __init__(self, store):
        self._store = store
        self._known = {}
        self._alone = {}
        self._common = {}

    def first_alone(self, ones, others):
        """The first row of the ones, one behind the other, that the others don't have; None where they have all."""
        if (ones, others) not in self._known:
            self._known[(ones, others)] = self._find_alone(ones, others)
        return self._known[(ones, others)]

    def _find_alone(self, ones, others):
        found = None
        behind = ()
        for one, other in list(zip(ones, others))[::-1]:
            first = first_row(self._store, (one,))
            alone = self._alone_in(one, other)
            if alone == first:
                found = first + behind
            elif found is not None:
                found = first + found
            elif alone is not None:
                found = alone + behind
            behind = first + behind
        return found

    def first_common(self, ones, others):
        """The first row, one behind the other, that both the ones and the others have; None where there is none."""
        row = ()
        for one, other in zip(ones, others):
            common = self._common_of(one, other)
            if common is None:
                return None
            row = row + common
        return row

    def _alone_in(self, one, other):
        """The first row of the one that the other doesn't have, or None."""
        if one == other:
            return None
        if (one, other) not in self._alone:
            self._alone[(one, other)] = self._find_alone_in(one, self._store.parts_by_value(other))
        return self._alone[(one, other)]

    def _find_alone_in(self, one, others):
        for value, parts in self._store.entries_of(one):
            if value not in others:
                return (value,) + first_row(self._store, parts)
            found = self.first_alone(parts, others[value])
            if found is not None:
                return (value,) + found
        return None

    def _common_of(self, one, other):
        """The first row of both, or None."""
        if (one, other) not in self._common:
            self._common[(one, other)] = self._find_common(one, self._store.parts_by_value(other))
        return self._common[(one, other)]

    def _find_common(self, one, others):
        for value, parts in self._store.entries_of(one):
            if value in others:
                found = self.first_common(parts, others[value])
                if found is not None:
                    return (value,) + found
        return None
