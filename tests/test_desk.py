"""Points 10.3 to 10.5: desks, told line by line, each answer held against a keeper and the functions."""

import random
import re
import unittest

from foldbough.desk import Desk
from foldbough.errors import (FoldError, NoColumn, NoColumns, NoFit, NoLine, NoName, NoPlace, NoRow, NothingDone,
                              TooMany)
from foldbough.keeper import Keeper
from foldbough.lightest import lightest
from foldbough.orders import place_of, row_at
from foldbough.papers import unfolded
from foldbough.sums import by, sum_of
from foldbough.texts import read_fold, read_table, read_tree, show_fold
from foldbough.trees import Tree
from foldbough.turns import turned_to
from tests.helps import name_of, number_of, refused
from tests.test_texts import NO_TEXTS, plain_tree

KINDS = {"table": "name names", "ask": "name names tree", "drop": "name", "put": "name row", "take": "name row",
         "undo": "", "tables": "", "questions": "", "deeds": "", "show": "name", "part": "name name row",
         "fold": "name", "count": "name", "rows": "name", "row": "name number", "place": "name row", "sum": "name name",
         "by": "name name", "turn": "name tree", "light": "name"}
NUMBER = "(0|-?[1-9][0-9]{0,39})"
PATTERNS = {"name": "[a-z]{1,8}", "names": "-|[a-z]{1,8}(,[a-z]{1,8})*", "row": f"-|{NUMBER}(,{NUMBER})*",
            "number": NUMBER}
FORTY = "9" * 40

STORY = [
    ("tables", "-"), ("questions", "-"), ("deeds", "-"), ("table r a,b", "ok"), ("table s b,c", "ok"),
    ("table t -", "ok"), ("tables", "r s t"), ("ask q r,s b(a,c)", "ok"), ("ask e - -", "ok"),
    ("ask q r,r,t b(a)", None), ("ask p r,r,t a(b)", "ok"), ("questions", "e p q"),
    ("put r 1,7", "p a -; p b 1"), ("put s 7,5", "q b -; q c 7"),
    ("put s 7,-6", "q b -; q c 7"), ("put r 2,7", "p a -; p b 2; q b -; q a 7"), ("put t -", "-"), ("put r 2,7", "-"),
    ("show r", "a,b\n1,7\n2,7"), ("show t", "\n"), ("fold q", "b(a,c)\n0\nb 7:1,2\na 1 2\nc -6 5"),
    ("count q", "4 3 5"), ("rows q", "7,1,-6; 7,1,5; 7,2,-6; 7,2,5"), ("row q 2", "7,2,-6"), ("place q 7,2,-6", "2"),
    ("place q 7,2", "none"), ("place q -", "none"), ("place e -", "0"), ("sum q c", "-2"), ("by q a", "1:2 2:2"),
    ("by q c", "-6:2 5:2"), ("turn q a(b(c))", "fold 3 5"), ("turn q a,b,c", "fold 3 5"), ("light q", "b,c,a"),
    ("light p", "a,b"), ("part q c 7", "2"), ("part q b -", "4"), ("part q a 8", "0"), ("rows p", "1,7; 2,7"),
    ("rows e", "-"), ("row e 0", "-"), ("fold e", "\n"), ("count e", "1 0 0"), ("light e", ""),
    ("turn e -", "fold 0 0"),
    ("put r 2,8", "p a -; p b 2"), ("turn p a,b", "mixed"), ("light p", "a(b)"), ("undo", "p a -; p b 2"),
    ("take r 1,7", "p a -; p b 1; q b -; q a 7"), ("undo", "p a -; p b 1; q b -; q a 7"),
    ("deeds", "put r 1,7; put s 7,5; put s 7,-6; put r 2,7; put t -; put r 2,7"),
    ("take t -", "-"), ("rows p", "-"), ("by p a", "-"), ("count p", "0 0 0"), ("fold p", "a(b)\n-"),
    ("light p", "a,b"),
    ("drop q", "ok"), ("questions", "e p"), ("ask q - -", "ok"), ("drop q", "ok"), ("show r", "a,b\n1,7\n2,7"),
]


def told_of(line, desk):
    """The answer, or the refusal's class and fields."""
    try:
        return desk.say(line)
    except FoldError as refusal:
        return (type(refusal), vars(refusal))


def may_stand(word, kind):
    if kind == "tree":
        return word == "-" or (word != "" and plain_tree(word) is not None)
    return re.fullmatch(PATTERNS[kind], word) is not None


def plain_wrong(line):
    """The number of the first word that can't stand where it does; None where all can."""
    words = line.split(" ")
    if words[0] not in KINDS:
        return 0
    kinds = KINDS[words[0]].split()
    for at, kind in enumerate(kinds, 1):
        if at == len(words) or not may_stand(words[at], kind):
            return at
    return len(kinds) + 1 if len(words) > len(kinds) + 1 else None


def written(row):
    return ",".join(str(value) for value in row) or "-"


def of_places(places):
    return "; ".join(f"{question} {column} {written(keys)}" for question, column, keys in places) or "-"


def numbers_in(word):
    return () if word == "-" else tuple(int(value) for value in word.split(","))


def names_in(word):
    return [] if word == "-" else word.split(",")


def tree_in(word):
    return Tree([]) if word == "-" else read_tree(word)


def of_turn(told):
    if told[0] == "fold":
        return f"fold {len(told[1])} {told[1].weight()}"
    return f"mixed {told[1]} {written(told[2])} {written(told[3])}"


def plain_answer(keeper, line):
    """What the keeper and the functions tell of a line."""
    word, *things = line.split(" ")
    return ANSWERS[word](keeper, *things)


def ok(told):
    assert told is None
    return "ok"


ANSWERS = {
    "table": lambda keeper, name, columns: ok(keeper.table(name, names_in(columns))),
    "ask": lambda keeper, name, names, tree: ok(keeper.ask(name, names_in(names), tree_in(tree))),
    "drop": lambda keeper, name: ok(keeper.drop(name)),
    "put": lambda keeper, name, row: of_places(keeper.put(name, numbers_in(row))),
    "take": lambda keeper, name, row: of_places(keeper.take(name, numbers_in(row))),
    "undo": lambda keeper: of_places(keeper.undo()),
    "tables": lambda keeper: " ".join(keeper.tables()) or "-",
    "questions": lambda keeper: " ".join(keeper.questions()) or "-",
    "deeds": lambda keeper: "; ".join(f"{word} {name} {written(row)}" for word, name, row in keeper.deeds()) or "-",
    "show": lambda keeper, name: "\n".join([",".join(keeper.table_of(name).columns())]
                                           + [",".join(map(str, row)) for row in keeper.table_of(name).rows()]),
    "part": lambda keeper, name, column, keys: str(keeper.part(name, column, numbers_in(keys)).count()),
    "fold": lambda keeper, name: show_fold(keeper.fold(name)),
    "count": lambda keeper, name: "{} {} {}".format(keeper.fold(name).count(), len(keeper.fold(name)),
                                                    keeper.fold(name).weight()),
    "rows": lambda keeper, name: "; ".join(written(row) for row in unfolded(keeper.fold(name))) or "-",
    "row": lambda keeper, name, number: written(row_at(keeper.fold(name), int(number))),
    "place": lambda keeper, name, row: str(place_of(keeper.fold(name), numbers_in(row))).lower(),
    "sum": lambda keeper, name, column: str(sum_of(keeper.fold(name), column)),
    "by": lambda keeper, name, column: " ".join(f"{value}:{many}"
                                                for value, many in by(keeper.fold(name), column)) or "-",
    "turn": lambda keeper, name, tree: of_turn(turned_to(keeper.fold(name), tree_in(tree))),
    "light": lambda keeper, name: str(lightest(keeper.fold(name))[0].tree()),
}


class Story(unittest.TestCase):
    def test_by_hand(self):
        desk = Desk()
        for line, answer in STORY:
            told = told_of(line, desk)
            if answer is None:
                self.assertEqual(told, (NoName, {"name": "q"}), line)
            elif answer == "mixed":
                self.assertIn(told, ["mixed b 1,7 2,8", "mixed b 2,8 1,7", "mixed a 1,7 2,8", "mixed a 2,8 1,7"])
            else:
                self.assertEqual(told, answer, line)

    def test_texts_are_read_back(self):
        desk = Desk()
        for line, _ in STORY[:20]:
            told_of(line, desk)
        self.assertEqual(str(read_table(desk.say(line="show r"))), "2 rows of a,b")
        self.assertEqual(str(read_fold(desk.say("fold q"))), "4 rows in 3 bunches")

    def test_two_desks_have_nothing_in_common(self):
        one, other = Desk(), Desk()
        for line, _ in STORY[:20]:
            told_of(line, one)
        self.assertEqual([other.say(line) for line in ["tables", "questions", "deeds"]], ["-", "-", "-"])
        other.say("table r z")
        self.assertEqual(one.say("show r"), "a,b\n1,7\n2,7")

    def test_no_deed_but_six_changes_anything(self):
        desk = Desk()
        for line, _ in STORY[:20]:
            told_of(line, desk)
        lines = ["tables", "questions", "deeds", "show r", "show s", "fold q", "fold p"]
        stands = [desk.say(line) for line in lines]
        for line, _ in STORY:
            if line.split(" ")[0] not in ["table", "ask", "drop", "put", "take", "undo"]:
                told_of(line, desk)
                self.assertEqual([desk.say(told) for told in lines], stands)


class NoLines(unittest.TestCase):
    def test_no_text(self):
        for thing in NO_TEXTS:
            self.assertEqual(number_of(self, NoLine, Desk().say, thing), -1)
            self.assertEqual(number_of(self, NoLine, Desk().say, line=thing), -1)

    def test_by_hand(self):
        desk = Desk()
        for line, at in [("", 0), (" ", 0), ("-", 0), ("Tables", 0), (" tables", 0), ("tables ", 1), ("undo x", 1),
                         ("tables  ", 1), ("put", 1), ("put t", 2), ("put t ", 2), ("put  t 1", 1), ("put t  1", 2),
                         ("put t 1 ", 3), ("put t 1 2", 3), ("put T 1", 1), ("put - 1", 1), ("put t 1,", 2),
                         ("put t ,1", 2), ("put t 1,,2", 2), ("put t --", 2), ("put t -,1", 2), ("put t 01", 2),
                         ("put t -0", 2), ("put t +1", 2), ("put t a", 2), ("put t 1" + FORTY, 2), ("put T x y", 1),
                         ("table", 1), ("table a", 2), ("table a A", 2), ("table a b,", 2), ("table a b,-", 2),
                         ("table abcdefghi b", 1), ("table a abcdefghi", 2), ("table a 1", 2), ("ask q t", 3),
                         ("ask q t ", 3), ("ask q t (", 3), ("ask q t a(b", 3), ("ask q t a,a", 3), ("ask q t A", 3),
                         ("ask q t - -", 4), ("ask q - a(b),", 3), ("row q", 2), ("row q x", 2), ("row q 1,2", 2),
                         ("row q -", 2), ("row q 00", 2), ("part q a", 3), ("part q - -", 2), ("part q a 1;2", 3),
                         ("sum q", 2), ("sum q 1", 2), ("by q a b", 3), ("turn q", 2), ("turn q a(a)", 2),
                         ("light", 1), ("light q -", 2), ("count q q", 2), ("place q", 2), ("drop q,r", 1),
                         ("table\nr a", 0), ("table r\na", 1), ("tables\n", 0), ("puts t 1", 0), ("ok", 0)]:
            self.assertEqual(number_of(self, NoLine, desk.say, line), at, line)

    def test_nine_names_are_names(self):
        desk = Desk()
        refused(self, NoColumns, desk.say, "table t a,b,c,d,e,f,g,h,i")
        refused(self, NoColumns, desk.say, "table t a,a")
        self.assertEqual(desk.say("tables"), "-")
        self.assertEqual(desk.say("table t a"), "ok")
        self.assertEqual(desk.say("ask q " + ",".join(["t"] * 12) + " a"), "ok")

    def test_refused_as_what_it_asks_is(self):
        desk = Desk()
        for line, _ in STORY[:20]:
            told_of(line, desk)
        stands = [desk.say(line) for line in ["tables", "questions", "deeds", "show r"]]
        self.assertEqual(name_of(self, NoName, desk.say, "table r a,a"), "r")
        self.assertEqual(name_of(self, NoName, desk.say, "put x 1"), "x")
        self.assertEqual(name_of(self, NoName, desk.say, "show q"), "q")
        self.assertEqual(name_of(self, NoName, desk.say, "fold r"), "r")
        self.assertEqual(name_of(self, NoName, desk.say, "ask z r,x,y a"), "x")
        self.assertEqual(name_of(self, NoName, desk.say, "drop z"), "z")
        self.assertEqual(name_of(self, NoName, desk.say, "part z z -"), "z")
        self.assertEqual(name_of(self, NoColumn, desk.say, "part q z -"), "z")
        self.assertEqual(name_of(self, NoColumn, desk.say, "sum q z"), "z")
        self.assertEqual(name_of(self, NoColumn, desk.say, "by p c"), "c")
        self.assertEqual(number_of(self, NoRow, desk.say, "part q a -"), 0)
        self.assertEqual(number_of(self, NoRow, desk.say, "put r 1"), 0)
        self.assertEqual(number_of(self, NoRow, desk.say, "take t 1"), 0)
        self.assertEqual(number_of(self, NoPlace, desk.say, "row q 4"), 4)
        self.assertEqual(number_of(self, NoPlace, desk.say, "row q -" + FORTY), -int(FORTY))
        refused(self, NoColumns, desk.say, "turn q a(b)")
        refused(self, NoColumns, desk.say, "ask z r -")
        error = refused(self, NoFit, desk.say, "ask z r a,b")
        self.assertEqual((error.one, error.other), ("a", "b"))
        self.assertEqual([desk.say(line) for line in ["tables", "questions", "deeds", "show r"]], stands)
        refused(self, NothingDone, Desk().say, "undo")

    def test_more_than_a_thousand_rows(self):
        desk = Desk()
        desk.say("table t a")
        desk.say("table u b")
        desk.say("table v c")
        desk.say("ask q t,u,v a,b,c")
        for at in range(10):
            for name in "tuv":
                desk.say(f"put {name} {at}")
        self.assertEqual(desk.say("rows q").count("; "), 999)
        self.assertEqual(desk.say("put v 10"), "q c -")
        self.assertEqual(refused(self, TooMany, desk.say, "rows q").many, 1100)
        self.assertEqual(desk.say("row q 1099"), "9,9,10")


class ByChance(unittest.TestCase):
    """Desks told lines by chance, held against a keeper that is asked the same."""

    def some_word(self, chance, kind, wrong):
        if wrong and chance.randrange(12) == 0:
            return chance.choice(["", "-", "a", "1", "A", "a,b", "1,2", "a(b", "00", "-1", "x y"])
        if kind == "name":
            return chance.choice("abcq") if chance.randrange(2) else chance.choice("aq")
        if kind == "names":
            return ",".join(chance.choice("abc") for _ in range(chance.randrange(4))) or "-"
        if kind == "number":
            return str(chance.randrange(-1, 5))
        if kind == "row":
            return ",".join(str(chance.randrange(-1, 2)) for _ in range(chance.choice([0, 1, 1, 2]))) or "-"
        return chance.choice(["-", "a", "a(b)", "b(a)", "b(a,c)", "a(b(c))", "a,b", "c,a", "b(c)", "b", "c(b(a))"])

    def some_line(self, chance, wrong=True):
        word = chance.choice(list(KINDS) * 2 + ["put"] * 24 + ["ask"] * 4)
        if word in ["drop", "take", "undo"] and chance.randrange(2):
            word = "put"
        words = [word] + [self.some_word(chance, kind, wrong) for kind in KINDS[word].split()]
        if word not in ["table", "put", "take", "show", "undo"] and len(words) > 1 and chance.randrange(4) > 0:
            words[1] = "q"
        if word == "ask" and chance.randrange(2):
            words = ["ask", "q", "a,b,c", chance.choice(["b(a,c)", "a(b(c))", "c(b(a))"])]
        if word in ["put", "take"] and chance.randrange(3) > 0:
            name = chance.choice("abc")
            words[1:] = [name, ",".join(str(chance.randrange(-1, 2)) for _ in range(1 if name == "b" else 2))]
        if wrong and chance.randrange(12) == 0:
            words = words[:-1] if chance.randrange(2) else words + [chance.choice(["", "a", "1"])]
        return " ".join(words)

    def test_beside_a_keeper(self):
        chance = random.Random(161)
        answered = {}
        for _ in range(60):
            desk, keeper = Desk(), Keeper()
            for line in ["table a a,b", "table b b", "table c c,b", "ask q a,b,c b(a,c)"]:
                self.assertEqual(desk.say(line), plain_answer(keeper, line))
            for _ in range(150):
                line = self.some_line(chance)
                at = plain_wrong(line)
                if at is not None:
                    self.assertEqual(told_of(line, desk), (NoLine, {"at": at}), line)
                    continue
                try:
                    told = plain_answer(keeper, line)
                except FoldError as refusal:
                    told = (type(refusal), vars(refusal))
                else:
                    answered[line.split(" ")[0]] = answered.get(line.split(" ")[0], 0) + 1
                self.assertEqual(told_of(line, desk), told, line)
        self.assertEqual(set(answered), set(KINDS))
        self.assertGreater(min(answered.values()), 20, answered)

    def test_wrong_lines(self):
        chance = random.Random(162)
        desk = Desk()
        wrong = 0
        for _ in range(3000):
            line = self.some_line(chance)
            at = chance.randrange(len(line) + 1)
            sign = chance.choice([" ", ",", "-", "(", "0", "a", "\n", "Z", ""])
            line = line[:at] + sign + line[at + chance.randrange(2):]
            if plain_wrong(line) is None:
                told = told_of(line, desk)
                self.assertTrue(isinstance(told, str) or told[0] is not NoLine, line)
            else:
                self.assertEqual(number_of(self, NoLine, desk.say, line), plain_wrong(line), line)
                wrong += 1
        self.assertGreater(wrong, 1000)


if __name__ == "__main__":
    unittest.main()
