"""Trees, tables and folds as texts, shown and read."""

from foldbough.errors import NoFold, NoText
from foldbough.figures import number_of, numbers_of, written
from foldbough.kinds import LONGEST_NAME, MOST_COLUMNS, are_columns, is_name_in
from foldbough.papers import fold_of
from foldbough.tables import Table
from foldbough.trees import Tree


class TreeReader:
    """Takes a tree's text sign by sign, as long as the text of some tree goes on so."""

    def __init__(self):
        self._overs = {}
        # The columns whose brackets are open, the name that is being written, and whether a bracket was just closed.
        self._brackets = [None]
        self._name = ""
        self._closed = False

    def takes(self, sign):
        """Whether the text of some tree goes on with this sign."""
        if "a" <= sign <= "z":
            return self._takes_letter(sign)
        if sign == "," or (sign == "(" and not self._closed):
            if not self._ends_name() or len(self._overs) == MOST_COLUMNS:
                return False
            if sign == "(":
                self._brackets.append(self._name)
            self._name, self._closed = "", False
            return True
        if sign == ")" and len(self._brackets) > 1 and self._ends_name():
            self._brackets.pop()
            self._name, self._closed = "", True
            return True
        return False

    def ends(self):
        """Whether what was taken is the whole text of a tree."""
        if self._name == "" and not self._closed:
            return len(self._overs) == 0
        return len(self._brackets) == 1 and self._ends_name()

    def pairs(self):
        """The pairs of the tree."""
        return list(self._overs.items())

    def _takes_letter(self, sign):
        longer = self._name + sign
        if self._closed or len(longer) > LONGEST_NAME:
            return False
        # A shorter name that is taken may still go on as another one.
        if len(longer) == LONGEST_NAME and longer in self._overs:
            return False
        self._name = longer
        return True

    def _ends_name(self):
        """Whether a name, or all beneath it, may end here; the name is then told."""
        if self._closed:
            return True
        if self._name == "" or self._name in self._overs:
            return False
        self._overs[self._name] = self._brackets[-1]
        return True


def show_tree(tree):
    """The tree's text."""
    return str(tree)


def show_table(table):
    """The table's text: a line of its columns, and one for each row."""
    return "\n".join([",".join(table.columns())] + [written(row) for row in table.rows()])


def show_fold(fold):
    """The fold's text: its tree's, a line of its tops, and one for each bunch."""
    tops = "-" if fold.tops() is None else written(fold.tops())
    return "\n".join([show_tree(fold.tree()), tops] + [_bunch_shown(bunch) for bunch in fold.bunches()])


def read_tree(text):
    """The tree of this text."""
    _check_text(text)
    reader = TreeReader()
    for at, sign in enumerate(text):
        if not reader.takes(sign):
            raise NoText(at)
    if not reader.ends():
        raise NoText(len(text))
    return Tree(reader.pairs())


def read_table(text):
    """The table of this text."""
    _check_text(text)
    lines = text.split("\n")
    columns = lines[0].split(",") if lines[0] != "" else []
    if not are_columns(columns):
        raise NoText(0)
    rows = []
    for at, line in enumerate(lines[1:], start=1):
        row = numbers_of(line, len(columns))
        if row is None or (len(rows) > 0 and row <= rows[-1]):
            raise NoText(at)
        rows.append(row)
    return Table(columns, rows)


def read_fold(text):
    """The fold of this text."""
    _check_text(text)
    lines = text.split("\n")
    tree = _tree_of(lines[0])
    if len(lines) == 1:
        raise NoText(1)
    tops = None
    if lines[1] != "-":
        tops = _parts_of(lines[1], len(tree.children()))
        if tops is None:
            raise NoText(1)
    bunches = []
    for at, line in enumerate(lines[2:], start=2):
        bunch = _bunch_of(line, tree)
        if bunch is None:
            raise NoText(at)
        bunches.append(bunch)
    fold = _fold_of(tree, bunches, tops)
    if fold is None or show_fold(fold) != text:
        raise NoText(len(lines))
    return fold


def _check_text(text):
    if not isinstance(text, str):
        raise NoText(-1)


def _bunch_shown(bunch):
    column, entries = bunch
    words = [f"{value}:{written(parts)}" if len(parts) > 0 else str(value) for value, parts in entries]
    return " ".join([column] + words)


def _tree_of(line):
    try:
        return read_tree(line)
    except NoText:
        raise NoText(0)


def _fold_of(tree, bunches, tops):
    """The Fold of a folded thing; None of what is none."""
    try:
        return fold_of(tree, bunches, tops)
    except NoFold:
        return None


def _bunch_of(line, tree):
    """The bunch that is written so; None of what is none."""
    words = line.split(" ")
    column = words[0]
    if len(words) == 1 or not is_name_in(column, tree.columns()):
        return None
    many = len(tree.children(column))
    entries = [_entry_of(word, many) for word in words[1:]]
    if None in entries or any([entries[at][0] >= entries[at + 1][0] for at in range(len(entries) - 1)]):
        return None
    return (column, entries)


def _entry_of(word, many):
    """The entry of so many parts that is written so; None of what is none."""
    value, colon, behind = word.partition(":")
    parts = _parts_of(behind, many)
    told = number_of(value)
    if told is None or parts is None or (colon == ":") != (many > 0):
        return None
    return (told, parts)


def _parts_of(text, many):
    """So many numbers from 0 on that are written so; None of what is none."""
    parts = numbers_of(text, many)
    if parts is None or any([part < 0 for part in parts]):
        return None
    return parts
