"""What tables let stand at the places along a tree, and the places that come."""

from foldbough.errors import TooMany
from foldbough.stores import least_fold


class Stands:
    """The ways on from a place: its keys, the values that may stand there, and the places beneath."""

    def __init__(self, tables, tree):
        self._tree = tree
        self._barred = any([len(table.columns()) == 0 and len(table) == 0 for table in tables])
        self._keys = {column: keys_along(tables, tree, column) for column in tree.columns()}
        self._lets = {}
        for column in tree.columns():
            having = [table for table in tables if column in table.columns()]
            self._lets[column] = [_lets_of(table, column, self._keys[column]) for table in having]

    def tree(self):
        """The tree."""
        return self._tree

    def is_barred(self):
        """Whether a table without columns has no row."""
        return self._barred

    def keys_at(self, column):
        """The columns on whose values the part at a place of this column hangs, from the top down."""
        return list(self._keys[column])

    def values_at(self, column, keys):
        """The values that may stand at a place, rising."""
        lets = []
        for places, values in self._lets[column]:
            lets.append(values.get(tuple([keys[at] for at in places]), {}))
        return [value for value in lets[0] if all([value in let for let in lets])]

    def places_by(self, column, keys, value):
        """The places to which one comes from a place by a value, one of each child, in order."""
        told = dict(zip(self._keys[column], keys))
        told[column] = value
        return [(child, tuple([told[name] for name in self._keys[child]])) for child in self._tree.children(column)]


def come_places(stands, most):
    """The places that come, tuples (column, keys), and for each a bunch with an entry for each value that may stand.

    The parts go by the places' numbers in the list; the tops come first, and each place behind one by which it
    comes. Where more than most come (None: however many) they are refused.
    """
    places = [(column, ()) for column in stands.tree().children()]
    numbers = {place: number for number, place in enumerate(places)}
    bunches = []
    while len(bunches) < len(places):
        column, keys = places[len(bunches)]
        entries = []
        for value in stands.values_at(column, keys):
            beneath = stands.places_by(column, keys, value)
            entries.append((value, _numbers_of(beneath, places, numbers)))
        bunches.append((column, entries))
        if most is not None and len(places) > most:
            raise TooMany(most)
    return places, bunches


def answer_of(stands, bunches):
    """The answer's Fold, of the bunches of all places that come."""
    tops = tuple(range(len(stands.tree().children())))
    return least_fold(stands.tree(), bunches, None if stands.is_barred() else tops)


def keys_along(tables, tree, column):
    """The columns above that stand in a table together with the column or one beneath it."""
    beneath = tree.beneath(column)
    near = []
    for table in tables:
        if any([name in beneath for name in table.columns()]):
            near.extend(table.columns())
    return [name for name in tree.above(column) if name in near]


def _lets_of(table, column, keys):
    """Which of the keys the table has, by their places among them, and by their values those of the column."""
    columns = table.columns()
    shared = [name for name in keys if name in columns]
    places = [columns.index(name) for name in shared + [column]]
    values = {}
    for row in sorted({tuple([told[place] for place in places]) for told in table.rows()}):
        values.setdefault(row[:-1], {})[row[-1]] = True
    return ([keys.index(name) for name in shared], values)


def _numbers_of(found, places, numbers):
    """The numbers of these places; one that hasn't come yet is put behind the others."""
    for place in found:
        if place not in numbers:
            numbers[place] = len(places)
            places.append(place)
    return tuple([numbers[place] for place in found])
