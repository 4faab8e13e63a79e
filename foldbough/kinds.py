"""What whole numbers, names, columns and rows are; each asked of things of any kind."""

MOST_COLUMNS = 8
LONGEST_NAME = 8


def is_whole(thing):
    """Whether it is an int that is no truth."""
    return isinstance(thing, int) and not isinstance(thing, bool)


def is_name(thing):
    """Whether it is a text of one to eight small letters."""
    if not isinstance(thing, str) or not 1 <= len(thing) <= LONGEST_NAME:
        return False
    return all(["a" <= sign <= "z" for sign in thing])


def is_name_in(thing, names):
    """Whether it is one of these names, a list of them or a dict by them."""
    # A thing of another kind might call itself equal to a name, or not be hashable.
    return is_name(thing) and thing in names


def are_columns(thing):
    """Whether it is a list of at most eight unlike names."""
    if not isinstance(thing, list) or len(thing) > MOST_COLUMNS:
        return False
    return all([is_name(name) for name in thing]) and len(set(thing)) == len(thing)


def is_row(thing, many):
    """Whether it is a tuple of so many whole numbers."""
    if not isinstance(thing, tuple) or len(thing) != many:
        return False
    return all([is_whole(value) for value in thing])


def is_stretch(low, high):
    """Whether these are a whole number and one that is not below it."""
    return is_whole(low) and is_whole(high) and low <= high


def is_number_below(thing, many):
    """Whether it is a whole number from 0 on that is below many."""
    return is_whole(thing) and 0 <= thing < many


def are_weights(thing):
    """Whether it is a dict of whole numbers by tuples (column, value), a name and a whole number."""
    if not isinstance(thing, dict):
        return False
    return all([_is_column_with_value(key) and is_whole(weight) for key, weight in thing.items()])


def _is_column_with_value(thing):
    return isinstance(thing, tuple) and len(thing) == 2 and is_name(thing[0]) and is_whole(thing[1])
