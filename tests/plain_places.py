"""Places that come and their parts, gone through by the document's words, which the tests hold the program against."""

from foldbough.joins import keys_of
from foldbough.tables import Table
from foldbough.trees import Tree
from tests.plain import answer


def plain_part(tables, tree, column, keys):
    """The rows over the column and all beneath it that with the keys go with a row of each table that has some."""
    beneath = tree.beneath(column)
    inner = Tree([(name, upper if upper in beneath else None) for name, upper in tree.pairs() if name in beneath])
    named = dict(zip(keys_of(tables, tree, column), keys))
    found = []
    for table in tables:
        columns = table.columns()
        if set(columns) & set(beneath):
            upper = [name for name in columns if name in tree.above(column)]
            rows = [row for row in table.rows() if all(row[columns.index(name)] == named[name] for name in upper)]
            found.append(Table(columns, rows).of([name for name in columns if name in beneath]))
    return answer(found, inner)


def plain_values(tables, tree, column, keys):
    """The values that may stand at a place."""
    named = dict(zip(keys_of(tables, tree, column), keys))
    values = None
    for table in tables:
        columns = table.columns()
        if column in columns:
            upper = [name for name in columns if name in tree.above(column)]
            here = {row[columns.index(column)] for row in table.rows()
                    if all(row[columns.index(name)] == named[name] for name in upper)}
            values = here if values is None else values & here
    return sorted(values)


def plain_beneath(tables, tree, column, keys, value):
    """The children's places to which one comes by the value."""
    named = dict(zip(keys_of(tables, tree, column), keys))
    named[column] = value
    return [(child, tuple(named[name] for name in keys_of(tables, tree, child))) for child in tree.children(column)]


def plain_come(tables, tree):
    """The places that come, in a dict."""
    come = {(top, ()): True for top in tree.children()}
    for column in tree.columns():
        for place in [place for place in come if place[0] == column]:
            for value in plain_values(tables, tree, *place):
                come.update((part, True) for part in plain_beneath(tables, tree, *place, value))
    return come


def plain_places(tables, tree):
    """The places with their parts, gone through by the words: those that lie in the answer, and those without rows."""
    come = plain_come(tables, tree)
    parts = {place: plain_part(tables, tree, *place) for place in come}
    lie = {(top, ()): True for top in tree.children()} if answer(tables, tree) else {}
    for column in tree.columns():
        for place in [place for place in lie if place[0] == column]:
            for value in plain_values(tables, tree, *place):
                beneath = plain_beneath(tables, tree, *place, value)
                if all(parts[part] for part in beneath):
                    lie.update((part, True) for part in beneath)
    told = [place for place in come if place in lie or not parts[place]]
    told.sort(key=lambda place: (tree.columns().index(place[0]), place[1]))
    return [(place, parts[place]) for place in told], len(come)


def plain_changes(ahead, behind, tree):
    """The places that come of the tables ahead or behind and whose parts are unlike, in order."""
    come = {**plain_come(ahead, tree), **plain_come(behind, tree)}
    changed = [place for place in come if plain_part(ahead, tree, *place) != plain_part(behind, tree, *place)]
    return sorted(changed, key=lambda place: (tree.columns().index(place[0]), place[1]))
