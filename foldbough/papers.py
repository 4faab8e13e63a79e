"""Folds of rows handed in, and papers that show why rows fold, why they don't, and that a fold is the least."""

from foldbough.errors import NoBunch, NoFold, NoPaper, NoRow, TooMany
from foldbough.folds import downward, first_row
from foldbough.healed import check_same_columns, healed
from foldbough.kinds import is_name_in, is_number_below, is_row, is_whole
from foldbough.stores import least_fold


def fold_of(tree, bunches, tops):
    """The Fold of the rows of any folded thing."""
    if not isinstance(bunches, list):
        raise NoFold(0)
    for at, bunch in enumerate(bunches):
        if not _is_bunch(bunch, tree, bunches):
            raise NoFold(at)
    if tops is not None and not _are_parts(tops, tree.children(), bunches):
        raise NoFold(len(bunches))
    return least_fold(tree, bunches, tops)


def single(tree, row):
    """The Fold of one row."""
    if not is_row(row, len(tree)):
        raise NoRow(0)
    columns = tree.columns()
    bunches = [(column, [(value, _places(tree, column))]) for column, value in zip(columns, row)]
    return least_fold(tree, bunches, _places(tree, None))


def unfolded(fold, most=1000):
    """The list of all rows, rising, where there are not more than most."""
    many = fold.count()
    if many > most:
        raise TooMany(many)
    if fold.tops() is None:
        return []
    bunches = fold.bunches()
    rows = [[] for bunch in bunches]
    for number in downward(fold.tree(), bunches)[::-1]:
        for value, parts in bunches[number][1]:
            rows[number].extend([(value,) + behind for behind in _behind_one_another(rows, parts)])
    return _behind_one_another(rows, fold.tops())


def mix(tree, column, one, other):
    """The one row, with the other one's values in the column and all beneath it."""
    tree.check_column(column)
    for at, row in enumerate([one, other]):
        if not is_row(row, len(tree)):
            raise NoRow(at)
    start, end = _stretch(tree, column)
    return one[:start] + other[start:end] + one[end:]


def folded(table, tree):
    """The table's rows folded along the tree, or two of them whose mix there is none of them."""
    fold = healed(table, tree)
    # What is healed holds all the rows, and no others just where the rows fold.
    if fold.count() == len(table):
        return ("fold", fold)
    rows = table.of(tree.columns()).rows()
    return _first_mixed(rows, tree)


def check_mixed(table, tree, paper):
    """Refuse what is no paper of two rows of the table whose mix is no row of it."""
    check_same_columns(table, tree)
    if not _is_mixed(paper, tree):
        raise NoPaper(-1)
    word, column, one, other = paper
    rows = table.of(tree.columns())
    if not rows.has(one):
        raise NoPaper(0)
    if not rows.has(other):
        raise NoPaper(1)
    if _values_above(tree, column, one) != _values_above(tree, column, other):
        raise NoPaper(2)
    if rows.has(mix(tree, column, one, other)):
        raise NoPaper(3)


def road_to(fold, number):
    """Values of the columns above a bunch's column by which the bunch is come to."""
    _check_bunch(fold, number)
    bunches = fold.bunches()
    roads = {top: () for top in fold.tops()}
    for upper in downward(fold.tree(), bunches):
        for value, parts in bunches[upper][1]:
            for part in parts:
                roads[part] = roads[upper] + (value,)
    return roads[number]


def parting(fold, one, other):
    """None where two bunches are one, else which one has the first row that just one of them has, and this row."""
    _check_bunch(fold, one)
    _check_bunch(fold, other)
    if fold.column_of(one) != fold.column_of(other):
        raise NoBunch(other)
    if one == other:
        return None
    return _parting_of_unlike(fold, one, other)


def _is_bunch(thing, tree, bunches):
    """Whether it is a column of the tree and a list of entries, values rising, with parts among the bunches."""
    if not isinstance(thing, tuple) or len(thing) != 2:
        return False
    column, entries = thing
    if not is_name_in(column, tree.columns()) or not isinstance(entries, list):
        return False
    children = tree.children(column)
    if not all([_is_entry(entry, children, bunches) for entry in entries]):
        return False
    return all([entries[at][0] < entries[at + 1][0] for at in range(len(entries) - 1)])


def _is_entry(thing, children, bunches):
    if not isinstance(thing, tuple) or len(thing) != 2:
        return False
    return is_whole(thing[0]) and _are_parts(thing[1], children, bunches)


def _are_parts(thing, columns, bunches):
    """Whether it is a tuple with the number of a bunch of each of these columns."""
    if not isinstance(thing, tuple) or len(thing) != len(columns):
        return False
    return all([_is_number_of(part, column, bunches) for part, column in zip(thing, columns)])


def _is_number_of(part, column, bunches):
    if not is_number_below(part, len(bunches)):
        return False
    bunch = bunches[part]
    return isinstance(bunch, tuple) and len(bunch) == 2 and is_name_in(bunch[0], [column])


def _places(tree, column):
    """Where among all columns the children of this one stand, of None the tops."""
    columns = tree.columns()
    return tuple([columns.index(child) for child in tree.children(column)])


def _behind_one_another(rows, parts):
    """All rows of a row of each of these parts, one behind the other, rising."""
    found = [()]
    for part in parts:
        found = [row + behind for row in found for behind in rows[part]]
    return found


def _stretch(tree, column):
    """From where on, and up to where, the column and all beneath it stand in a row."""
    start = tree.columns().index(column)
    return (start, start + len(tree.beneath(column)))


def _values_above(tree, column, row):
    columns = tree.columns()
    return tuple([row[columns.index(name)] for name in tree.above(column)])


def _first_mixed(rows, tree):
    """Two of the rows, which don't fold, whose mix at a column is none of them."""
    for column in tree.columns():
        groups = {}
        for row in rows:
            groups.setdefault(_values_above(tree, column, row), []).append(row)
        for group in list(groups.values()):
            pair = _unmixed_pair(group, tree, column)
            if pair is not None:
                return ("mixed", column, pair[0], pair[1])
    # Rows that have all their mixes fold, so that one of the columns shows a pair.
    return None


def _unmixed_pair(group, tree, column):
    """Two of these rows, all alike above the column, whose mix is none of them; None where they have all mixes."""
    start, end = _stretch(tree, column)
    inner = {row[start:end]: row for row in group}
    outer = {row[:start] + row[end:]: row for row in group}
    there = {row: True for row in group}
    # All mixes are there just where each inner part stands within each outer one.
    if len(inner) * len(outer) == len(group):
        return None
    for one in list(outer.values()):
        for other in list(inner.values()):
            if mix(tree, column, one, other) not in there:
                return (one, other)
    return None


def _is_mixed(thing, tree):
    """Whether it is a tuple of the word, a column of the tree and two rows of as many values."""
    if not isinstance(thing, tuple) or len(thing) != 4:
        return False
    word, column, one, other = thing
    if not isinstance(word, str) or word != "mixed" or not is_name_in(column, tree.columns()):
        return False
    return is_row(one, len(tree)) and is_row(other, len(tree))


def _check_bunch(fold, number):
    if not is_number_below(number, len(fold)):
        raise NoBunch(number)


def _parting_of_unlike(fold, one, other):
    """What parting tells of two unlike bunches of one column."""
    ones = dict(fold.entries_of(one))
    others = dict(fold.entries_of(other))
    # In a Fold two bunches are never alike, so that the least value where they aren't is there.
    value = min([told for told in {**ones, **others} if ones.get(told) != others.get(told)])
    if value not in others:
        return ("one", (value,) + first_row(fold, ones[value]))
    if value not in ones:
        return ("other", (value,) + first_row(fold, others[value]))
    which, row = _parting_behind(fold, ones[value], others[value])
    return (which, (value,) + row)


def _parting_behind(fold, ones, others):
    """What parting would tell of the rows behind a value, of unlike parts of the same columns."""
    if ones[1:] == others[1:]:
        which, row = _parting_of_unlike(fold, ones[0], others[0])
        return (which, row + first_row(fold, ones[1:]))
    first, second = first_row(fold, ones[:1]), first_row(fold, others[:1])
    if first < second:
        return ("one", first_row(fold, ones))
    if second < first:
        return ("other", first_row(fold, others))
    which, row = _parting_behind(fold, ones[1:], others[1:])
    return (which, first + row)
