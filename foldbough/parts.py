"""The parts of places, and the places whose parts are others behind a change of the tables."""

from foldbough.stands import Stands, come_places
from foldbough.stores import Store
from foldbough.trees import Tree


class Parts:
    """Finds the parts of places, whether they come or not, in a store that others may share."""

    def __init__(self, tables, tree, store):
        self._stands = Stands(tables, tree)
        self._store = store
        self._numbers = {}

    def come(self, most):
        """The places that come, tuples (column, keys), at most most of them."""
        places, _ = come_places(self._stands, most)
        return places

    def number_at(self, column, keys):
        """The number of the store's bunch that has the rows of a place's part; None where there are none."""
        place = (column, keys)
        if place not in self._numbers:
            entries = []
            for value in self._stands.values_at(column, keys):
                beneath = self._stands.places_by(column, keys, value)
                parts = tuple([self.number_at(child, told) for child, told in beneath])
                if None not in parts:
                    entries.append((value, parts))
            self._numbers[place] = self._store.number_of(column, entries)
        return self._numbers[place]


def part_of(tables, tree, column, keys):
    """The part of a place, folded along the tree of its column and all beneath it."""
    store = Store()
    number = Parts(tables, tree, store).number_at(column, keys)
    beneath = [(name, tree.over(name)) for name in tree.beneath(column)[1:]]
    return store.fold_along(Tree([(column, None)] + beneath), (number,))


def changed_places(ahead, behind, tree, most):
    """The places that come of the tables ahead or behind, at most most of either, and whose parts are unlike."""
    store = Store()
    first, last = Parts(ahead, tree, store), Parts(behind, tree, store)
    # One that comes of both stands once.
    come = {place: True for place in first.come(most) + last.come(most)}
    changed = [place for place in come if first.number_at(*place) != last.number_at(*place)]
    order = tree.columns()
    return sorted(changed, key=lambda place: (order.index(place[0]), place[1]))
