"""Keepers: tables and questions by names, rows put in and taken out, and what that changes."""

from foldbough.errors import NoName, NoRow, NothingDone
from foldbough.joins import MOST_PLACES, fold_join, keys_of
from foldbough.kinds import is_name, is_name_in, is_row
from foldbough.parts import changed_places, part_of
from foldbough.tables import Table


class Keeper:
    """Keeps tables and questions by names; at first none."""

    def __init__(self):
        self._tables = {}
        # By a question's name the list of its tables' names, and its tree.
        self._questions = {}
        # Tuples of a deed's word, its table's name, its row, and the table as it was ahead of it.
        self._deeds = []

    def table(self, name, columns):
        """Keep a table of these columns, without rows, by this name."""
        _check_free(name, self._tables)
        self._tables[name] = Table(columns)

    def ask(self, name, names, tree):
        """Keep a question of the tables of these names, along a tree, by this name."""
        _check_free(name, self._questions)
        for told in names:
            _check_known(told, self._tables)
        fold_join([self._tables[told] for told in names], tree)
        self._questions[name] = (list(names), tree)

    def drop(self, name):
        """Let a question go."""
        _check_known(name, self._questions)
        del self._questions[name]

    def tables(self):
        """The tables' names, sorted."""
        return sorted(self._tables)

    def questions(self):
        """The questions' names, sorted."""
        return sorted(self._questions)

    def deeds(self):
        """The puts and takes that stand, in order, as tuples ("put", table, row) or ("take", table, row)."""
        return [(word, name, row) for word, name, row, _ in self._deeds]

    def table_of(self, name):
        """The table of this name as it stands now."""
        _check_known(name, self._tables)
        return self._tables[name]

    def asked(self, name):
        """The names of a question's tables, and its tree."""
        _check_known(name, self._questions)
        names, tree = self._questions[name]
        return (list(names), tree)

    def fold(self, name):
        """The answer of a question, of its tables as they stand now."""
        names, tree = self.asked(name)
        return fold_join(self._standing(names), tree)

    def part(self, name, column, keys):
        """The part of a place of a question, folded along the tree of its column and all beneath it."""
        names, tree = self.asked(name)
        tables = self._standing(names)
        if not is_row(keys, len(keys_of(tables, tree, column))):
            raise NoRow(0)
        return part_of(tables, tree, column, keys)

    def put(self, table, row):
        """Put a row into a table, and tell the places whose parts that changes."""
        ahead = self.table_of(table)
        places = self._change(table, ahead.with_row(row))
        self._deeds.append(("put", table, row, ahead))
        return places

    def take(self, table, row):
        """Take a row out of a table, and tell the places whose parts that changes."""
        ahead = self.table_of(table)
        places = self._change(table, ahead.without_row(row))
        self._deeds.append(("take", table, row, ahead))
        return places

    def undo(self):
        """Undo the last put or take that stands, and tell the places whose parts that changes."""
        if len(self._deeds) == 0:
            raise NothingDone("no put or take stands")
        _, name, _, ahead = self._deeds[-1]
        places = self._change(name, ahead)
        self._deeds.pop()
        return places

    def twin(self):
        """Another keeper that stands alike."""
        other = Keeper()
        other._tables = dict(self._tables)
        other._questions = dict(self._questions)
        other._deeds = list(self._deeds)
        return other

    def _standing(self, names):
        """The tables of these names, as they stand now."""
        return [self._tables[name] for name in names]

    def _change(self, name, behind):
        """Let another table stand by this name, and tell the places whose parts that changes."""
        found = []
        for question in self.questions():
            names, tree = self._questions[question]
            if name in names:
                told = [behind if one == name else self._tables[one] for one in names]
                changed = changed_places(self._standing(names), told, tree, MOST_PLACES)
                found.extend([(question, column, keys) for column, keys in changed])
        self._tables[name] = behind
        return found


def _check_free(name, taken):
    if not is_name(name) or name in taken:
        raise NoName(name)


def _check_known(name, known):
    if not is_name_in(name, known):
        raise NoName(name)
