"""Desks, which keep a keeper and answer lines."""

from foldbough.errors import NoLine, NoText
from foldbough.figures import number_of, numbers_of, written
from foldbough.keeper import Keeper
from foldbough.kinds import is_name
from foldbough.lightest import lightest
from foldbough.orders import place_of, row_at
from foldbough.papers import unfolded
from foldbough.sums import by, sum_of
from foldbough.texts import read_tree, show_fold, show_table, show_tree
from foldbough.trees import Tree
from foldbough.turns import turned_to


class Desk:
    """Keeps a keeper, at first a new one, and is told lines."""

    def __init__(self):
        self._keeper = Keeper()

    def say(self, line):
        """The answer to a line."""
        if not isinstance(line, str):
            raise NoLine(-1)
        words = line.split(" ")
        things = _things_of(words)
        answer = ANSWERS[words[0]]
        return answer(self._keeper, *things)


def _things_of(words):
    """The things that a line's deed takes, told by the words behind its own."""
    if words[0] not in TAKEN:
        raise NoLine(0)
    kinds = TAKEN[words[0]]
    things = []
    for at, kind in enumerate(kinds, start=1):
        if at == len(words):
            raise NoLine(at)
        read = READ[kind]
        thing = read(words[at])
        if thing is None:
            raise NoLine(at)
        things.append(thing)
    if len(words) > len(kinds) + 1:
        raise NoLine(len(kinds) + 1)
    return things


def _read_name(word):
    return word if is_name(word) else None


def _read_names(word):
    """The names, a comma between two; - for none."""
    names = word.split(",") if word != "-" else []
    return names if all([is_name(name) for name in names]) else None


def _read_row(word):
    """The values, a comma between two; - for none."""
    return numbers_of(word, word.count(",") + 1) if word != "-" else ()


def _read_tree(word):
    """The tree; - for that of no columns, and a word without signs is none."""
    if word == "":
        return None
    try:
        return read_tree(word) if word != "-" else Tree([])
    except NoText:
        return None


def _read_number(word):
    return number_of(word)


def _told(words, between):
    """These words, so much between two; - for none."""
    return between.join(words) if len(words) > 0 else "-"


def _told_row(row):
    return _told([str(value) for value in row], ",")


def _told_places(places):
    return _told([f"{question} {column} {_told_row(keys)}" for question, column, keys in places], "; ")


def _table(keeper, name, columns):
    keeper.table(name, columns)
    return "ok"


def _ask(keeper, name, names, tree):
    keeper.ask(name, names, tree)
    return "ok"


def _drop(keeper, question):
    keeper.drop(question)
    return "ok"


def _put(keeper, table, row):
    return _told_places(keeper.put(table, row))


def _take(keeper, table, row):
    return _told_places(keeper.take(table, row))


def _undo(keeper):
    return _told_places(keeper.undo())


def _tables(keeper):
    return _told(keeper.tables(), " ")


def _questions(keeper):
    return _told(keeper.questions(), " ")


def _deeds(keeper):
    return _told([f"{word} {table} {_told_row(row)}" for word, table, row in keeper.deeds()], "; ")


def _show(keeper, table):
    return show_table(keeper.table_of(table))


def _part(keeper, question, column, keys):
    return str(keeper.part(question, column, keys).count())


def _fold(keeper, question):
    return show_fold(keeper.fold(question))


def _count(keeper, question):
    fold = keeper.fold(question)
    return f"{fold.count()} {len(fold)} {fold.weight()}"


def _rows(keeper, question):
    return _told([_told_row(row) for row in unfolded(keeper.fold(question))], "; ")


def _row(keeper, question, number):
    return _told_row(row_at(keeper.fold(question), number))


def _place(keeper, question, row):
    number = place_of(keeper.fold(question), row)
    return "none" if number is None else str(number)


def _sum(keeper, question, column):
    return str(sum_of(keeper.fold(question), column))


def _by(keeper, question, column):
    return _told([f"{value}:{many}" for value, many in by(keeper.fold(question), column)], " ")


def _turn(keeper, question, tree):
    told = turned_to(keeper.fold(question), tree)
    if told[0] == "fold":
        return f"fold {len(told[1])} {told[1].weight()}"
    return f"mixed {told[1]} {_told_row(told[2])} {_told_row(told[3])}"


def _light(keeper, question):
    fold, _ = lightest(keeper.fold(question))
    return show_tree(fold.tree())


# The kinds of the things that each deed takes, in order.
TAKEN = {"table": ("name", "names"), "ask": ("name", "names", "tree"), "drop": ("name",), "put": ("name", "row"),
         "take": ("name", "row"), "undo": (), "tables": (), "questions": (), "deeds": (), "show": ("name",),
         "part": ("name", "name", "row"), "fold": ("name",), "count": ("name",), "rows": ("name",),
         "row": ("name", "number"), "place": ("name", "row"), "sum": ("name", "name"), "by": ("name", "name"),
         "turn": ("name", "tree"), "light": ("name",)}
READ = {"name": _read_name, "names": _read_names, "row": _read_row, "tree": _read_tree, "number": _read_number}
ANSWERS = {"table": _table, "ask": _ask, "drop": _drop, "put": _put, "take": _take, "undo": _undo, "tables": _tables,
           "questions": _questions, "deeds": _deeds, "show": _show, "part": _part, "fold": _fold, "count": _count,
           "rows": _rows, "row": _row, "place": _place, "sum": _sum, "by": _by, "turn": _turn, "light": _light}
