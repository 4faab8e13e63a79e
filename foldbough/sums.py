"""Counts and sums over a fold's rows, found in the fold."""

from foldbough.errors import NoColumns, NoCosts
from foldbough.folds import downward, each_one, product_at, weighed
from foldbough.kinds import are_weights, is_whole


def counts(fold):
    """For each bunch how many rows it has."""
    return weighed(fold.tree(), fold.bunches(), each_one)


def roads(fold):
    """For each bunch how many rows over the columns above its column lead to it."""
    # With one for each part, what stands beside the way doesn't count.
    return _around(fold, each_one, [1] * len(fold))


def through(fold):
    """For each bunch how many rows of the fold go through it."""
    inside = counts(fold)
    return [many * beside for many, beside in zip(inside, _around(fold, each_one, inside))]


def total(fold, worths):
    """The sum, over all rows, of the product of the worths told for their values."""
    if not are_weights(worths):
        raise NoCosts("worths are a dict of whole numbers by column and value")
    return _sum_weighed(fold, lambda column, value: worths.get((column, value), 1))


def sum_of(fold, column):
    """The sum, over all rows, of their values at a column."""
    return product_of(fold, [column])


def product_of(fold, columns):
    """The sum, over all rows, of the product of their values at these columns."""
    if not isinstance(columns, list) or _has_twice(columns):
        raise NoColumns("columns are a list of unlike names")
    _check_columns_in(fold, columns)
    return _sum_weighed(fold, _values_at(columns))


def by(fold, column):
    """For each value that some row has at the column, how many have it."""
    _check_columns_in(fold, [column])
    return _sums_by_value(fold, column, each_one)


def sums_by(fold, column, other):
    """For each value that some row has at the column, the sum of what these rows have at the other one."""
    _check_columns_in(fold, [column, other])
    return _sums_by_value(fold, column, _values_at([other]))


def _values_at(columns):
    """What tells that values weigh themselves at these columns, and one at all others."""
    return lambda column, value: value if column in columns else 1


def _sum_weighed(fold, weigh):
    """The sum, over all rows, of the product of what their values weigh."""
    if fold.tops() is None:
        return 0
    return product_at(weighed(fold.tree(), fold.bunches(), weigh), fold.tops())


def _sums_by_value(fold, column, weigh):
    """For each value at the column, the sum of the product of what the values of its rows weigh."""
    bunches = fold.bunches()
    inside = weighed(fold.tree(), bunches, weigh)
    around = _around(fold, weigh, inside)
    sums = {}
    for at, (told, entries) in enumerate(bunches):
        if told == column:
            for value, parts in entries:
                weight = weigh(column, value) * around[at] * product_at(inside, parts)
                sums[value] = sums.get(value, 0) + weight
    return [(value, sums[value]) for value in sorted(sums)]


def _around(fold, weigh, inside):
    """For each bunch the sum, over all ways to it, of the product of what stands around it.

    That is what the values above its column weigh, and what is told to stand inside of the parts beside the way.
    """
    around = [0] * len(fold)
    if fold.tops() is None:
        return around
    _add_to_parts(around, 1, inside, fold.tops())
    bunches = fold.bunches()
    for number in downward(fold.tree(), bunches):
        column, entries = bunches[number]
        for value, parts in entries:
            _add_to_parts(around, around[number] * weigh(column, value), inside, parts)
    return around


def _add_to_parts(around, upper, inside, parts):
    """Add to each part what is above it, with what stands inside of the others."""
    for at, part in enumerate(parts):
        around[part] += upper * product_at(inside, parts[:at] + parts[at + 1:])


def _check_columns_in(fold, columns):
    """Refuse the first thing that is no column of the fold's tree."""
    tree = fold.tree()
    for column in columns:
        tree.check_column(column)


def _has_twice(things):
    """Whether one thing stands in the list twice."""
    return any([_are_one(one, other) for at, one in enumerate(things) for other in things[at + 1:]])


def _are_one(one, other, deep=4):
    """Whether two things are alike; looked into are lists and tuples, so deep."""
    if isinstance(one, str):
        return isinstance(other, str) and one == other
    if is_whole(one):
        return is_whole(other) and one == other
    # Things of unlike kinds are not compared: one of another kind might call itself equal to all, or fail.
    if one.__class__.__name__ != other.__class__.__name__:
        return False
    if isinstance(one, (list, tuple)) and deep > 0:
        return len(one) == len(other) and all([_are_one(a, b, deep - 1) for a, b in zip(one, other)])
    return one in [other]
