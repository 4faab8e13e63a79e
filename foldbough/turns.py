"""A fold's rows along other trees: a column swung, lifted or lowered, and whole folds turned."""

from foldbough.errors import NoColumns, NoTurn
from foldbough.folds import first_row, renumbered, upward
from foldbough.papers import parting, road_to
from foldbough.stores import Store, refolded
from foldbough.thinning import alike_values, thinned, widened
from foldbough.trees import Tree
from foldbough.ways import way_down

MOST_BUNCHES = 400


class Lowering:
    """Takes a fold's bunches into a store, from beneath up, as they stand where a column is lowered.

    Each bunch on the way down to the column under which it comes is taken once for each bunch that comes beneath it.
    """

    def __init__(self, fold, store, column, under):
        tree = fold.tree()
        self._fold = fold
        self._store = store
        self._upper = tree.over(column)
        self._under = under
        self._at = tree.children(self._upper).index(column)
        way = tree.above(under) + [under]
        way = way[way.index(self._upper) + 1:] if self._upper is not None else way
        self._steps = {tree.over(step): tree.children(tree.over(step)).index(step) for step in way}
        self._way = way
        self._numbers = {}
        self._known = {}

    def take(self, number, column, entries):
        """Take a bunch, but those on the way."""
        if column in self._way:
            return
        if column == self._upper:
            told = [(value, self._lowered(parts)) for value, parts in entries]
        else:
            told = renumbered(entries, self._numbers)
        self._numbers[number] = self._store.number_of(column, told)

    def tops(self):
        """The tops in the store, where all bunches are taken."""
        tops = self._fold.tops()
        if tops is None or self._upper is None:
            return None if tops is None else self._lowered(tops)
        return tuple([self._numbers[top] for top in tops])

    def _lowered(self, parts):
        """The parts of the column right above, without the one that is lowered."""
        moved = parts[self._at]
        told = self._with_step(self._upper, parts, moved)
        return told[:self._at] + told[self._at + 1:]

    def _with_step(self, column, parts, moved):
        """These parts beneath a column, the one on the way with what is moved beneath it."""
        step = self._steps[column]
        told = [self._numbers.get(part) for part in parts]
        told[step] = self._on_way(parts[step], moved)
        return tuple(told)

    def _on_way(self, number, moved):
        """The number of a bunch on the way, with what is moved beneath it."""
        if (number, moved) not in self._known:
            column = self._fold.column_of(number)
            entries = []
            for value, parts in self._fold.entries_of(number):
                if column == self._under:
                    told = tuple([self._numbers[part] for part in parts + (moved,)])
                else:
                    told = self._with_step(column, parts, moved)
                entries.append((value, told))
            self._known[(number, moved)] = self._store.number_of(column, entries)
        return self._known[(number, moved)]


def swung(fold, column):
    """The Fold along the tree in which the column stands in the place of the one right above it."""
    upper = _upper_of(fold, column)
    tree = fold.tree()
    at = tree.children(upper).index(column)
    alike = alike_values(fold)
    thin = thinned(fold, alike)
    store = Store(MOST_BUNCHES)
    numbers = {}
    for number, told, entries in upward(thin):
        if told == upper:
            by_value = _swung_entries(thin, entries, at)
            beneath = [(value, store.number_of(upper, renumbered(by_value[value], numbers))) for value in by_value]
            numbers[number] = store.number_of(column, [(value, (part,)) for value, part in sorted(beneath)])
        elif told != column:
            numbers[number] = store.number_of(told, renumbered(entries, numbers))
    return widened(store.fold_along(_swung_tree(tree, column), _tops_by(numbers, thin.tops())), alike)


def lifted(fold, column):
    """The Fold along the tree in which the column stands right behind the one right above it, or what bars it."""
    upper = _upper_of(fold, column)
    tree = fold.tree()
    at = tree.children(upper).index(column)
    behind = {}
    for number in range(len(fold)):
        if fold.column_of(number) == upper:
            entries = fold.entries_of(number)
            behind[number] = entries[0][1][at]
            for entry in entries:
                if entry[1][at] != behind[number]:
                    return _mixed_of_lift(fold, number, at, (entries[0], entry))
    outer = tree.over(upper)
    place = tree.children(outer).index(upper)

    def change(told, parts):
        if told == upper:
            return parts[:at] + parts[at + 1:]
        if told == outer:
            return parts[:place + 1] + (behind[parts[place]],) + parts[place + 1:]
        return parts

    return ("fold", refolded(fold, _lifted_tree(tree, column), change))


def lowered(fold, column, under):
    """The Fold along the tree in which the column is the last child of one beneath the column right above it."""
    tree = fold.tree()
    upper = tree.over(column)
    tree.check_column(under)
    if column in tree.above(under) + [under] or not (upper is None or tree.is_above(upper, under)):
        raise NoTurn(column)
    store = Store(MOST_BUNCHES)
    lowering = Lowering(fold, store, column, under)
    for number, told, entries in upward(fold):
        lowering.take(number, told, entries)
    return store.fold_along(_lowered_tree(tree, column, under), lowering.tops())


def turned_to(fold, tree):
    """The Fold of the same rows along another tree of the same columns, or what bars it."""
    if sorted(fold.tree().columns()) != sorted(tree.columns()):
        raise NoColumns("the tree's columns are not just the fold's")
    alike = alike_values(fold)
    # Along the one way down the rows always fold, and all that bars the tree is found in that fold.
    way = way_down(thinned(fold, alike), tree.columns(), MOST_BUNCHES)
    store = Store()
    if way.tops() is None:
        return ("fold", store.fold_along(tree, None))
    numbers, rests = {}, {}
    for number, column, entries in upward(way):
        told = [_parts_of_rests(parts, len(tree.children(column)), numbers, rests) for value, parts in entries]
        rests[number] = told[0][1]
        for at, (_, rest) in enumerate(told):
            if rest != rests[number]:
                return _mixed_of_way(way, tree, number, (entries[0], entries[at]), (told[0][1], rest))
        found = [(entry[0], parts) for entry, (parts, _) in zip(entries, told)]
        numbers[number] = store.number_of(column, found)
    tops, _ = _parts_of_rests(way.tops(), len(tree.children()), numbers, rests)
    return ("fold", widened(store.fold_along(tree, tops), alike))


def _upper_of(fold, column):
    """The column right above one that is no top."""
    upper = fold.tree().over(column)
    if upper is None:
        raise NoTurn(column)
    return upper


def _tops_by(numbers, tops):
    return None if tops is None else tuple([numbers[top] for top in tops])


def _swung_entries(fold, entries, at):
    """By each value of the column that stands at this place beneath, rising, the entries that it leaves."""
    found = {}
    for value, parts in entries:
        for told, beneath in fold.entries_of(parts[at]):
            found.setdefault(told, []).append((value, parts[:at] + parts[at + 1:] + beneath))
    return {told: found[told] for told in sorted(found)}


def _swung_tree(tree, column):
    upper = tree.over(column)
    beneath = tree.beneath(column)
    pairs = []
    for name, over in tree.pairs():
        if name == upper:
            pairs.extend([(column, over), (upper, column)])
        elif name not in beneath:
            pairs.append((name, over))
    return Tree(pairs + _pairs_beneath(tree, column, upper))


def _lifted_tree(tree, column):
    upper = tree.over(column)
    beneath = tree.beneath(column)
    stay = [pair for pair in tree.pairs() if pair[0] not in beneath]
    end = tree.columns().index(upper) + len(tree.beneath(upper)) - len(beneath)
    return Tree(stay[:end] + [(column, tree.over(upper))] + _pairs_beneath(tree, column, column) + stay[end:])


def _lowered_tree(tree, column, under):
    beneath = tree.beneath(column)
    stay = [pair for pair in tree.pairs() if pair[0] not in beneath]
    return Tree(stay + [(column, under)] + _pairs_beneath(tree, column, column))


def _pairs_beneath(tree, column, upper):
    """The pairs of what stands beneath a column, its children right beneath another one."""
    pairs = [(name, tree.over(name)) for name in tree.beneath(column)[1:]]
    return [(name, upper if over == column else over) for name, over in pairs]


def _mixed_of_lift(fold, number, at, entries):
    """Two rows, lifted, of two entries of a bunch that have unlike parts at the place of the column lifted."""
    parts = [parts[at] for _, parts in entries]
    which, row = parting(fold, parts[0], parts[1])
    ahead, behind = _around(fold, number)
    rows = []
    for name, (value, beneath) in zip(["one", "other"], entries):
        told = row if name == which else first_row(fold, (beneath[at],))
        rows.append(ahead + (value,) + first_row(fold, beneath[:at] + beneath[at + 1:]) + told + behind)
    # The row of the one that lacks what parts them comes first: mixed, it would have that.
    if which == "one":
        rows = rows[::-1]
    return ("mixed", fold.column_of(parts[0]), rows[0], rows[1])


def _around(fold, number):
    """What a row that goes through a bunch has ahead of it, and behind it, in the tree's order."""
    tree = fold.tree()
    way = tree.above(fold.column_of(number))
    ahead, behind = (), ()
    upper, parts = None, fold.tops()
    for step, value in zip(way, road_to(fold, number)):
        at = tree.children(upper).index(step)
        ahead = ahead + first_row(fold, parts[:at]) + (value,)
        behind = first_row(fold, parts[at + 1:]) + behind
        upper, parts = step, dict(fold.entries_of(parts[at]))[value]
    at = tree.children(upper).index(fold.column_of(number))
    return ahead + first_row(fold, parts[:at]), first_row(fold, parts[at + 1:]) + behind


def _parts_of_rests(parts, many, numbers, rests):
    """The numbers of so many bunches, each the rest of the one ahead, and what is left behind the last one, or None."""
    rest = parts[0] if len(parts) > 0 else None
    found = []
    for _ in range(many):
        found.append(numbers[rest])
        rest = rests[rest]
    return (tuple(found), rest)


def _mixed_of_way(way, tree, number, entries, rests):
    """Two rows of two entries of a bunch of the one way down behind which unlike rests stand."""
    column = way.column_of(number)
    ahead = road_to(way, number)
    which, row = parting(way, rests[0], rests[1])
    rows = []
    for name, (value, parts), rest in zip(["one", "other"], entries, rests):
        own = ((value,) + first_row(way, parts))[:len(tree.beneath(column))]
        rows.append(ahead + own + (row if name == which else first_row(way, (rest,))))
    # The row that has what parts them comes first: mixed, it would have that behind the other one's values.
    if which == "other":
        rows = rows[::-1]
    return ("mixed", column, rows[0], rows[1])
