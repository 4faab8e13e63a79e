"""Folds united and taken apart, or two rows whose mix bars every fold of the rows that would be."""

from foldbough.algebra import check_one_tree
from foldbough.folds import first_row
from foldbough.pairs import Pairs
from foldbough.papers import single
from foldbough.stores import Store


class Work:
    """Makes one of two bunches of a column, or of two tuples of bunches, each two once, by a rule.

    The rule tells, of the bunches of the same columns, the ones and the others, what comes of their rows, one behind
    the other: ("fold", parts), the parts None where there are no rows; ("mixed", column, row, row), where they don't
    fold; or ("part", at), where all parts stay as the ones are, but one is made of the one and the other there.
    """

    def __init__(self, store, rule, with_others):
        self._store = store
        self._pairs = Pairs(store)
        self._rule = rule
        self._with_others = with_others
        self._known_parts = {}
        self._known_bunches = {}

    def parts(self, ones, others):
        """What comes of the rows of these bunches: ("fold", parts) or ("mixed", column, row, row)."""
        if (ones, others) not in self._known_parts:
            self._known_parts[(ones, others)] = self._find_parts(ones, others)
        return self._known_parts[(ones, others)]

    def _find_parts(self, ones, others):
        rule = self._rule
        told = rule(self._store, self._pairs, ones, others)
        if told[0] != "part":
            return told
        at = told[1]
        found = self._bunch(ones[at], others[at])
        if found[0] == "mixed":
            ahead, behind = first_row(self._store, ones[:at]), first_row(self._store, ones[at + 1:])
            return ("mixed", found[1], ahead + found[2] + behind, ahead + found[3] + behind)
        return ("fold", ones[:at] + (found[1],) + ones[at + 1:])

    def _bunch(self, one, other):
        """What comes of two bunches: ("fold", number) or ("mixed", column, row, row)."""
        if (one, other) not in self._known_bunches:
            self._known_bunches[(one, other)] = self._find_bunch(one, other)
        return self._known_bunches[(one, other)]

    def _find_bunch(self, one, other):
        ones, others = self._store.parts_by_value(one), self._store.parts_by_value(other)
        entries = []
        for value in sorted({**ones, **others} if self._with_others else ones):
            if value not in others:
                found = ("fold", ones[value])
            elif value not in ones:
                found = ("fold", others[value])
            else:
                found = self.parts(ones[value], others[value])
            if found[0] == "mixed":
                return ("mixed", found[1], (value,) + found[2], (value,) + found[3])
            if found[1] is not None:
                entries.append((value, found[1]))
        return ("fold", self._store.number_of(self._store.column_of(one), entries))


def united(one, other):
    """The Fold of the rows that the one or the other has, or two of these rows whose mix is none of them."""
    check_one_tree(one, other)
    if one.tops() is None:
        return ("fold", other)
    if other.tops() is None:
        return ("fold", one)
    return _worked(one, other, _united_by, True)


def less(one, other):
    """The Fold of the rows that the one has and the other lacks, or two of these rows whose mix is none of them."""
    check_one_tree(one, other)
    if one.tops() is None or other.tops() is None:
        return ("fold", one)
    return _worked(one, other, _less_by, False)


def put_in(fold, row):
    """What united tells of the fold and this single row."""
    return united(fold, single(fold.tree(), row))


def took_out(fold, row):
    """What less tells of the fold and this single row."""
    return less(fold, single(fold.tree(), row))


def _worked(one, other, rule, with_others):
    store = Store()
    ones, others = store.tops_of(one), store.tops_of(other)
    told = Work(store, rule, with_others).parts(ones, others)
    if told[0] == "mixed":
        return told
    return ("fold", store.fold_along(one.tree(), told[1]))


def _united_by(store, pairs, ones, others):
    """The rule of rows that the ones or the others have."""
    ones_alone, others_alone = _alone_in(pairs, ones, others), _alone_in(pairs, others, ones)
    if len(others_alone) == 0:
        return ("fold", ones)
    if len(ones_alone) == 0:
        return ("fold", others)
    if len(ones_alone) == 1 and len(others_alone) == 1 and ones_alone[0][0] == others_alone[0][0]:
        return ("part", ones_alone[0][0])
    # What the ones have alone at one part, with what the others have alone at another, neither has.
    at, row, place, further = [own + theirs for own in ones_alone for theirs in others_alone if own[0] != theirs[0]][0]
    one, other = _with_row_at(_firsts(store, ones), at, row), _with_row_at(_firsts(store, others), place, further)
    return ("mixed", store.column_of(ones[place]), one, other)


def _less_by(store, pairs, ones, others):
    """The rule of rows that the ones have and the others lack."""
    common = [pairs.first_common((one,), (other,)) for one, other in zip(ones, others)]
    if None in common:
        return ("fold", ones)
    alone = _alone_in(pairs, ones, others)
    if len(alone) == 0:
        return ("fold", None)
    if len(alone) == 1:
        return ("part", alone[0][0])
    # A row that is taken out lies between two that stay, each of which has a part that the others lack.
    one, other = [_with_row_at(common, at, row) for at, row in alone[:2]]
    return ("mixed", store.column_of(ones[alone[0][0]]), one, other)


def _alone_in(pairs, ones, others):
    """Where the one has rows that the other lacks, and the first such, as tuples (at, row)."""
    found = [pairs.first_alone((one,), (other,)) for one, other in zip(ones, others)]
    return [(at, row) for at, row in enumerate(found) if row is not None]


def _firsts(store, parts):
    """The first row of each part."""
    return [first_row(store, (part,)) for part in parts]


def _with_row_at(rows, at, row):
    """These rows one behind the other, but another one at this place."""
    found = ()
    for place, told in enumerate(rows):
        found = found + (row if place == at else told)
    return found
