"""Tables brought together, folded along a tree, and papers of places that show the answer."""

from foldbough.errors import NoColumns, NoFit
from foldbough.folds import each_one, weighed
from foldbough.kinds import is_name_in, is_number_below, is_row
from foldbough.stands import Stands, answer_of, come_places, keys_along
from foldbough.trees import fits

MOST_PLACES = 400


def fold_join(tables, tree):
    """The rows that go with a row of each table, folded along the tree."""
    stands = _checked_stands(tables, tree)
    _, bunches = come_places(stands, MOST_PLACES)
    return answer_of(stands, bunches)


def keys_of(tables, tree, column):
    """The columns above this one that stand in a table together with it or with one beneath it."""
    _check_fit(tables, tree)
    tree.check_column(column)
    return keys_along(tables, tree, column)


def places(tables, tree):
    """The places that lie in the answer, with their bunches' numbers, and those without rows, with None."""
    stands = _checked_stands(tables, tree)
    come, bunches = come_places(stands, MOST_PLACES)
    counts = weighed(tree, bunches, each_one)
    numbers = _numbers_in(answer_of(stands, bunches), bunches)
    found = []
    for at, (column, keys) in enumerate(come):
        if at in numbers:
            found.append((column, keys, numbers[at]))
        elif counts[at] == 0:
            found.append((column, keys, None))
    order = tree.columns()
    return sorted(found, key=lambda place: (order.index(place[0]), place[1]))


def check_places(tables, tree, fold, paper):
    """Whether the paper shows, place by place, that the fold's rows are the answer's."""
    stands = _checked_stands(tables, tree)
    if not fold.tree() == tree or not _are_places(paper, stands, fold):
        return False
    told = {(column, keys): number for column, keys, number in paper}
    if len(told) < len(paper) or not _shows_tops(stands, fold, told):
        return False
    return all([_shows_place(stands, fold, place, told) for place in told])


def _checked_stands(tables, tree):
    _check_fit(tables, tree)
    return Stands(tables, tree)


def _check_fit(tables, tree):
    if sorted({name for table in tables for name in table.columns()}) != sorted(tree.columns()):
        raise NoColumns("the tree's columns are not just those of the tables")
    apart = fits(tree, tables)
    if apart is not None:
        raise NoFit(apart[0], apart[1])


def _numbers_in(fold, bunches):
    """For each place that lies in the answer, by its number, the number of the fold's bunch that has its part."""
    found = {}
    if fold.tops() is not None:
        found = dict(enumerate(fold.tops()))
    # Each place stands behind one by which it comes, and the fold has an entry just where all parts have rows.
    for at, bunch in enumerate(bunches):
        if at in found:
            told = dict(fold.entries_of(found[at]))
            for value, parts in bunch[1]:
                for part, number in zip(parts, told.get(value, ())):
                    found[part] = number
    return found


def _are_places(paper, stands, fold):
    if not isinstance(paper, list):
        return False
    return all([_is_place(thing, stands, fold) for thing in paper])


def _is_place(thing, stands, fold):
    """Whether it is a tuple of a column, values for its keys, and None or the number of a bunch of it."""
    if not isinstance(thing, tuple) or len(thing) != 3:
        return False
    column, keys, number = thing
    if not is_name_in(column, stands.tree().columns()) or not is_row(keys, len(stands.keys_at(column))):
        return False
    return number is None or (is_number_below(number, len(fold)) and fold.column_of(number) == column)


def _shows_tops(stands, fold, told):
    """Whether the paper shows that there are rows, with the tops' bunches, or that there are none."""
    tops = stands.tree().children()
    if fold.tops() is None:
        return stands.is_barred() or any([_is_bare(told, (top, ())) for top in tops])
    if stands.is_barred():
        return False
    return all([_has_number(told, (top, ()), number) for top, number in zip(tops, fold.tops())])


def _shows_place(stands, fold, place, told):
    """Whether the paper has what shows that this place has the part that it tells."""
    column, keys = place
    values = stands.values_at(column, keys)
    entries = {}
    if told[place] is not None:
        entries = dict(fold.entries_of(told[place]))
    if any([value not in values for value in entries]):
        return False
    for value in values:
        beneath = stands.places_by(column, keys, value)
        if value in entries:
            shown = all([_has_number(told, part, number) for part, number in zip(beneath, entries[value])])
        else:
            shown = any([_is_bare(told, part) for part in beneath])
        if not shown:
            return False
    return True


def _has_number(told, place, number):
    return place in told and told[place] == number


def _is_bare(told, place):
    """Whether the paper tells of this place that it has no rows."""
    return place in told and told[place] is None
