"""Points 10.1 and 10.2: trees, tables and folds as texts, read back, and where what is no such text goes wrong."""

import random
import re
import unittest

from foldbough.errors import FoldError, NoText
from foldbough.papers import fold_of, single
from foldbough.tables import Table
from foldbough.texts import read_fold, read_table, read_tree, show_fold, show_table, show_tree
from foldbough.trees import Tree
from tests.helps import ODD, number_of
from tests.plain import BIG, EMPTY, HAND_BUNCHES, HAND_TREE, NO_ROWS, ONE, UNIT, hand, some_folds, some_tree

NO_TEXTS = ODD + [None, 0, 1, -1, [], ["a"], ("a",), {"a"}, b"a(b)"]
HAND_TEXT = "a(b,c)\n0\na 1:1,2 4:1,3\nb 7 9\nc 5\nc 5 6"
NUMBER = "(0|-?[1-9][0-9]{0,39})"
NOT_BELOW_NOUGHT = "(0|[1-9][0-9]{0,39})"
NAME = "[a-z]{1,8}"
FORTY = "9" * 40


def plain_pairs(text, upper=None):
    """The pairs of a tree's text, cut at the commas that stand in no brackets; None of what is none."""
    pairs, words, deep = [], [""], 0
    for sign in text:
        deep += (sign == "(") - (sign == ")")
        if sign == "," and deep == 0:
            words.append("")
        else:
            words[-1] += sign
    for word in words:
        found = re.fullmatch(f"({NAME})(?:\\((.+)\\))?", word)
        if found is None:
            return None
        beneath = [] if found[2] is None else plain_pairs(found[2], found[1])
        if beneath is None:
            return None
        pairs.extend([(found[1], upper)] + beneath)
    return pairs


def plain_tree(text):
    """The tree of a text, or None."""
    pairs = [] if text == "" else plain_pairs(text)
    try:
        tree = None if pairs is None else Tree(pairs)
    except FoldError:
        return None
    return tree if tree is not None and str(tree) == text else None


def begins_a_tree(text):
    """Whether some text that goes on so, a sign more and brackets closed, is a tree's."""
    ends = [""] + list("abcdefghijklmnopqrstuvwxyz")
    return any(plain_tree(text + end + ")" * many) is not None for end in ends for many in range(text.count("(") + 1))


def plain_at(text):
    """The greatest number of signs with which the text of some tree begins."""
    return max(many for many in range(len(text) + 1) if begins_a_tree(text[:many]))


def are_rising(rows):
    return all(rows[at] < rows[at + 1] for at in range(len(rows) - 1))


def plain_line_of_table(lines):
    """The number of the first line of a table that isn't so written; None where all are."""
    names = lines[0].split(",") if lines[0] else []
    if len(set(names)) < len(names) or len(names) > 8 or not all(re.fullmatch(NAME, name) for name in names):
        return 0
    ahead = None
    for at, line in enumerate(lines[1:], 1):
        if not re.fullmatch(",".join([NUMBER] * len(names)), line):
            return at
        row = tuple(int(word) for word in line.split(",")) if names else ()
        if ahead is not None and row <= ahead:
            return at
        ahead = row
    return None


def plain_line_of_fold(lines):
    """The number of the first line of a fold that isn't so written, or how many lines where the second one lacks."""
    tree = plain_tree(lines[0])
    if tree is None:
        return 0
    if len(lines) < 2:
        return 1
    if lines[1] != "-" and not re.fullmatch(",".join([NOT_BELOW_NOUGHT] * len(tree.children())), lines[1]):
        return 1
    for at, line in enumerate(lines[2:], 2):
        words = line.split(" ")
        if words[0] not in tree.columns() or len(words) < 2:
            return at
        many = len(tree.children(words[0]))
        entry = NUMBER + (":" + ",".join([NOT_BELOW_NOUGHT] * many) if many else "")
        if not all(re.fullmatch(entry, word) for word in words[1:]):
            return at
        if not are_rising([int(word.partition(":")[0]) for word in words[1:]]):
            return at
    return None


def changed(chance, text, signs):
    """The text with some signs put in, left out, or lines told in another order."""
    for _ in range(chance.randrange(1, 3)):
        at = chance.randrange(len(text) + 1)
        deed = chance.randrange(4)
        if deed == 0:
            text = text[:at] + chance.choice(signs) + text[at:]
        elif deed == 1:
            text = text[:at] + text[at + 1:]
        elif deed == 2:
            text = text[:at] + chance.choice(signs) + text[at + 1:]
        else:
            lines = text.split("\n")
            chance.shuffle(lines)
            text = "\n".join(lines[:chance.randrange(1, len(lines) + 1)])
    return text


class Shown(unittest.TestCase):
    def test_trees(self):
        tree = Tree([("a", None), ("b", "a"), ("e", None), ("c", "a"), ("d", "c")])
        self.assertEqual(show_tree(tree), "a(b,c(d)),e")
        self.assertEqual(show_tree(tree=EMPTY), "")
        self.assertEqual(show_tree(ONE), "a")

    def test_tables(self):
        self.assertEqual(show_table(Table(["a", "b"], [(1, 5), (1, 2)])), "a,b\n1,2\n1,5")
        self.assertEqual(show_table(table=Table(["b"])), "b")
        self.assertEqual(show_table(Table([])), "")
        self.assertEqual(show_table(Table([], [()])), "\n")
        self.assertEqual(show_table(Table(["a"], [(0,), (-BIG,), (BIG,)])), f"a\n-{FORTY}\n0\n{FORTY}")

    def test_folds(self):
        self.assertEqual(show_fold(hand()), HAND_TEXT)
        self.assertEqual(show_fold(fold=NO_ROWS[2]), "a(b,c)\n-")
        self.assertEqual(show_fold(NO_ROWS[0]), "\n-")
        self.assertEqual(show_fold(UNIT), "\n")
        tree = Tree([("x", None), ("y", None), ("z", "y")])
        self.assertEqual(show_fold(single(tree, (0, -1, -BIG))), f"x,y(z)\n0,1\nx 0\ny -1:2\nz -{FORTY}")


class ReadBack(unittest.TestCase):
    def test_trees(self):
        chance = random.Random(141)
        for _ in range(300):
            tree = some_tree(chance, 8)
            names = {name: chance.choice(["", "q", "zzzzzzz"]) + name for name in tree.columns()}
            tree = Tree([(names[name], names.get(over)) for name, over in tree.pairs()])
            self.assertEqual(read_tree(show_tree(tree)), tree)
            self.assertEqual(show_tree(read_tree(text=str(tree))), str(tree))

    def test_tables(self):
        chance = random.Random(142)
        for _ in range(200):
            columns = chance.sample(["a", "b", "zz", "abcdefgh", "d", "e", "f", "g"], chance.randrange(9))
            values = (0, 1, -1, 10, -10, 120, BIG, -BIG)
            rows = [tuple(chance.choice(values) for _ in columns) for _ in range(chance.randrange(9))]
            table = Table(columns, rows)
            self.assertEqual(read_table(show_table(table)), table)
            self.assertEqual(read_table(text=show_table(table)).columns(), columns)

    def test_folds(self):
        for _, fold, _ in some_folds(143, 200):
            self.assertEqual(read_fold(show_fold(fold)), fold)
            self.assertEqual(show_fold(read_fold(text=show_fold(fold))), show_fold(fold))
        for fold in NO_ROWS + [UNIT, hand(), single(ONE, (-BIG,))]:
            self.assertEqual(read_fold(show_fold(fold)), fold)

    def test_told_things_are_new_ones(self):
        fold = read_fold(HAND_TEXT)
        fold.bunches().clear()
        self.assertEqual((fold, read_fold(HAND_TEXT)), (hand(), hand()))
        self.assertEqual(fold_of(HAND_TREE, HAND_BUNCHES, (0,)), fold)


class NoTexts(unittest.TestCase):
    def test_no_text(self):
        for read in [read_tree, read_table, read_fold]:
            for thing in NO_TEXTS:
                self.assertEqual(number_of(self, NoText, read, thing), -1)
                self.assertEqual(number_of(self, NoText, read, text=thing), -1)

    def test_trees_by_hand(self):
        for text, at in [("a(", 2), ("a(b", 3), ("a()", 2), ("(", 0), (")", 0), (",", 0), ("a)", 1), ("a,", 2),
                         ("a,,b", 2), ("A", 0), ("aB", 1), ("a b", 1), ("a\n", 1), ("-", 0), ("a1", 1), ("a,a", 3),
                         ("a,a,b", 3), ("a(a)", 3), ("a,ab,ab(c", 7), ("a(b))", 4), ("a(b)c", 4), ("a(b)(", 4),
                         ("a(b),", 5), ("a(b),)", 5), ("a((b))", 2), ("abcdefghi", 8), ("abcdefgh,abcdefgh", 16),
                         ("abcdefgh,abcdefg", None), ("abcdefg,abcdefg", 15), ("abcdefg,abcdefgh", None), (" ", 0),
                         ("a(b,c)(d)", 6), ("a(b(c)", 6), ("a(b(c),", 7), ("\n", 0), ("a.", 1)]:
            if at is None:
                self.assertEqual(str(read_tree(text)), text)
            else:
                self.assertEqual(number_of(self, NoText, read_tree, text), at, text)

    def test_trees_of_nine_columns(self):
        self.assertEqual(len(read_tree("a,b,c,d,e,f,g,h")), 8)
        self.assertEqual(str(read_tree("a(b(c(d(e(f(g(h)))))))")), "a(b(c(d(e(f(g(h)))))))")
        self.assertEqual(number_of(self, NoText, read_tree, "a,b,c,d,e,f,g,h,i"), 15)
        self.assertEqual(number_of(self, NoText, read_tree, "a,b,c,d,e,f,g,h,"), 15)
        self.assertEqual(number_of(self, NoText, read_tree, "a(b(c(d(e(f(g(h(i))))))))"), 15)
        self.assertEqual(number_of(self, NoText, read_tree, "a(b(c(d(e(f(g(h"), 15)
        self.assertEqual(number_of(self, NoText, read_tree, "a(b(c(d(e(f(g(h)))))),"), 21)
        self.assertEqual(number_of(self, NoText, read_tree, "a(b(c(d(e(f(g)))))),h,i"), 21)
        self.assertEqual(number_of(self, NoText, read_tree, "a,b,c,d,e,f,g,g"), 15)
        self.assertEqual(number_of(self, NoText, read_tree, "a,b,c,d,e,f,g,g,"), 15)
        self.assertEqual(number_of(self, NoText, read_tree, "a,b,c,d,e,f,g,gg)"), 16)

    def test_trees_sign_by_sign(self):
        chance = random.Random(144)
        wrong = 0
        for number in range(1500):
            if number % 2:
                text = changed(chance, str(some_tree(chance, 8)), "ab(),xz(),-A ")
            else:
                text = "".join(chance.choice("aab(),") for _ in range(chance.randrange(9)))
            if plain_tree(text) is not None:
                self.assertEqual(read_tree(text), plain_tree(text))
            else:
                self.assertEqual(number_of(self, NoText, read_tree, text), plain_at(text), text)
                wrong += 1
        self.assertGreater(wrong, 500)

    def test_tables_by_hand(self):
        for text, at in [("A", 0), ("a,", 0), ("a,a", 0), (",", 0), ("a b", 0), ("-", 0), ("abcdefghi", 0),
                         ("a,b,c,d,e,f,g,h,i", 0), ("a\n", 1), ("\n\n", 2), ("\n0", 1), ("a\n1,2", 1), ("a,b\n1", 1),
                         ("a,b\n1,", 1), ("a\n01", 1), ("a\n-0", 1), ("a\n+1", 1), ("a\n1 ", 1), ("a\n 1", 1),
                         ("a\n1\n1", 2), ("a\n2\n1", 2), ("a\n1\n", 2), ("a\n1\n2\n-", 3), ("a\n--1", 1),
                         ("a,b\n1,2\n1,2", 2), ("a,b\n1,2\n1,1", 2), ("a\n1_0", 1), ("a\n1.0", 1), ("a\n00", 1),
                         ("a\n1" + FORTY, 1), ("a\n-1" + FORTY, 1), ("a,b\n1;2", 1), ("a\nb", 1), (" a", 0),
                         ("\n-", 1), ("a\n-", 1), ("a\n0\n-5", 2)]:
            self.assertEqual(number_of(self, NoText, read_table, text), at, text)
        self.assertEqual(read_table("a\n-" + FORTY + "\n" + FORTY).rows(), [(-BIG,), (BIG,)])
        self.assertEqual(read_table("").columns(), [])
        self.assertEqual((len(read_table("")), len(read_table("\n"))), (0, 1))

    def test_tables_line_by_line(self):
        chance = random.Random(145)
        wrong = 0
        for _ in range(1500):
            columns = ["a", "bc", "d"][:chance.randrange(4)]
            rows = [tuple(chance.choice((0, 1, -1, 10, 25)) for _ in columns) for _ in range(chance.randrange(5))]
            text = changed(chance, show_table(Table(columns, rows)), "ab,01-\n ")
            at = plain_line_of_table(text.split("\n"))
            if at is None:
                self.assertEqual(show_table(read_table(text)), text)
            else:
                self.assertEqual(number_of(self, NoText, read_table, text), at, text)
                wrong += 1
        self.assertGreater(wrong, 500)

    def test_folds_by_hand(self):
        for text, at in [("", 1), ("a", 1), ("a(b", 0), ("A\n-", 0), ("a\n", 1), ("a\n0,1", 1), ("a\n-1", 1),
                         ("a\n-0", 1), ("a\n00", 1), ("a\nb", 1), ("a,b\n0", 1), ("\n0", 1), ("a\n--", 1),
                         ("a\n0", 2), ("a\n0\na", 2), ("a\n0\na ", 2), ("a\n0\na  1", 2), ("a\n0\na 1 ", 2),
                         ("a\n0\nb 1", 2), ("a\n0\na 1 1", 2), ("a\n0\na 2 1", 2), ("a\n0\na 01", 2), ("a\n0\n", 2),
                         ("a\n0\na 1:", 2), ("a\n0\na 1:0", 2), ("a(b)\n0\na 1\nb 1", 2), ("a(b)\n0\na 1:\nb 1", 2),
                         ("a(b)\n0\na 1:1,1\nb 1", 2), ("a(b)\n0\na 1:-1\nb 1", 2), ("a(b)\n0\na 1:1\nb 1:", 3),
                         ("a(b)\n0\na 1:1\nb 1\n", 4), ("a(b)\n0\na :1\nb 1", 2), ("a(b)\n0\na 1:1:1\nb 1", 2),
                         ("a(b)\n0\na 1:01\nb 1", 2), ("\n\n", 2), ("\n-\n", 2), ("\n-\na 1", 2),
                         ("a\n0\na " + FORTY + "1", 2), ("a b\n-", 0), ("-\n-", 0)]:
            self.assertEqual(number_of(self, NoText, read_fold, text), at, text)

    def test_folds_that_are_not_the_least_or_numbered_otherwise(self):
        for text in ["a(b)\n0\na 1:1 2:2\nb 1\nb 1", "a(b)\n0\na 1:1\nb 1\nb 2", "a(b)\n1\nb 1\na 1:0",
                     "a(b)\n0\na 1:0\nb 1", "a(b)\n1\na 1:1\nb 1", "a(b)\n0\na 1:2\nb 1", "a\n1\na 1", "a\n-\na 1",
                     "a,b\n1,0\nb 1\na 1", "a,b\n0,0\na 1\nb 1", "a(b,c)\n0\na 1:2,1\nc 1\nb 1",
                     "a(b)\n0\na 1:1 2:2\nb 1\nb 2\na 3:1", "a\n" + FORTY + "\na 1"]:
            lines = len(text.split("\n"))
            self.assertEqual(number_of(self, NoText, read_fold, text), lines, text)
        self.assertEqual(str(read_fold("a(b)\n0\na 1:1 2:2\nb 1\nb 2")), "2 rows in 3 bunches")
        self.assertEqual(read_fold(f"a\n0\na -{FORTY} 0 {FORTY}").count(), 3)

    def test_folds_line_by_line(self):
        wrong = {"line": 0, "whole": 0, "right": 0}
        for chance, fold, _ in some_folds(146, 1500, 4):
            text = show_fold(fold)
            if chance.randrange(3) > 0:
                text = changed(chance, text, "ab(),:01-\n ")
            else:
                upper, lower = text.split("\n")[:2], text.split("\n")[2:]
                text = "\n".join(upper + chance.sample(lower, len(lower)) + lower[:chance.randrange(2)])
            lines = text.split("\n")
            at = plain_line_of_fold(lines)
            if at is None and self.is_shown(text):
                wrong["right"] += 1
            else:
                self.assertEqual(number_of(self, NoText, read_fold, text), len(lines) if at is None else at, text)
                wrong["whole" if at is None else "line"] += 1
        self.assertGreater(wrong["line"], 500)
        self.assertGreater(wrong["whole"], 50)

    def is_shown(self, text):
        """Whether some fold's text is this one: that of what the lines tell, put together by hand."""
        lines = text.split("\n")
        bunches = []
        for line in lines[2:]:
            words = [word.partition(":") for word in line.split(" ")[1:]]
            entries = [(int(value), tuple(int(part) for part in parts.split(",")) if parts else ())
                       for value, _, parts in words]
            bunches.append((line.split(" ")[0], entries))
        tops = None if lines[1] == "-" else tuple(int(word) for word in lines[1].split(",")) if lines[1] else ()
        try:
            fold = fold_of(plain_tree(lines[0]), bunches, tops)
        except FoldError:
            return False
        if (fold.bunches(), fold.tops()) != (bunches, tops):
            return False
        self.assertEqual(read_fold(text), fold)
        return True


if __name__ == "__main__":
    unittest.main()
