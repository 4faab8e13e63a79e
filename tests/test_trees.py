"""Points 0.2, 2.1, 2.2 and 2.3: trees, what they tell and refuse, fits and tree_beside."""

import random
import unittest

from foldbough.errors import NoColumn, NoColumns, NoTree
from foldbough.tables import Table
from foldbough.trees import Tree, fits, tree_beside
from tests.helps import ANYTHING, BRITTLE, NO_NAMES, ODD, name_of, number_of, refused

EIGHT = ["a", "b", "c", "d", "e", "f", "g", "h"]
TOLD = [("a", None), ("b", "a"), ("e", None), ("c", "a"), ("d", "c")]


def sample():
    return Tree(TOLD)


def some_pairs(chance):
    names = chance.sample(EIGHT, chance.randrange(0, 9))
    return [(name, chance.choice([None] + names[:at])) for at, name in enumerate(names)]


def text_by_its_words(pairs, over=None):
    """The text of the columns with this one right above, straight from the pairs as told."""
    parts = []
    for name in [column for column, upper in pairs if upper == over]:
        inner = text_by_its_words(pairs, name)
        parts.append(name + "(" + inner + ")" if inner else name)
    return ",".join(parts)


class Made(unittest.TestCase):
    def test_order(self):
        self.assertEqual(sample().columns(), ["a", "b", "c", "d", "e"])
        self.assertEqual(sample().pairs(), [("a", None), ("b", "a"), ("c", "a"), ("d", "c"), ("e", None)])
        self.assertEqual(len(sample()), 5)

    def test_children_in_the_order_in_which_they_were_told(self):
        tree = Tree([("m", None), ("z", "m"), ("b", "z"), ("a", "m"), ("y", None), ("c", "z"), ("x", "y")])
        self.assertEqual(tree.columns(), ["m", "z", "b", "c", "a", "y", "x"])
        self.assertEqual(tree.children("m"), ["z", "a"])
        self.assertEqual(tree.children(), ["m", "y"])
        self.assertEqual(str(tree), "m(z(b,c),a),y(x)")

    def test_without_columns(self):
        tree = Tree([])
        self.assertEqual((tree.columns(), tree.pairs(), tree.children(), tree.children(None)), ([], [], [], []))
        self.assertEqual(len(tree), 0)
        self.assertEqual(str(tree), "")
        self.assertEqual(tree, Tree(pairs=[]))
        self.assertEqual(name_of(self, NoColumn, tree.over, "a"), "a")

    def test_eight_pairs_and_nine(self):
        tops = [(name, None) for name in EIGHT]
        self.assertEqual(Tree(tops).columns(), EIGHT)
        self.assertEqual(number_of(self, NoTree, Tree, tops + [("i", None)]), 8)
        self.assertEqual(number_of(self, NoTree, Tree, tops + [("i", None), 3]), 8)
        self.assertEqual(number_of(self, NoTree, Tree, tops[:7] + [3, ("i", None)]), 7)
        one_way = Tree([("a", None)] + [(EIGHT[k + 1], EIGHT[k]) for k in range(7)])
        self.assertEqual(one_way.above("h"), EIGHT[:7])
        self.assertEqual(one_way.beneath("a"), EIGHT)
        self.assertEqual(str(one_way), "a(b(c(d(e(f(g(h)))))))")

    def test_no_list(self):
        for thing in [None, True, 0, "", "a", (), (("a", None),), {}, {"a": None}, {1}, ANYTHING, BRITTLE]:
            self.assertEqual(number_of(self, NoTree, Tree, thing), -1)
            self.assertEqual(number_of(self, NoTree, Tree, pairs=thing), -1)

    def test_first_thing_that_is_no_pair(self):
        no_pairs = ODD + [None, 0, "c", "cd", (), ("c",), ("c", "a", "a"), ["c", "a"], ("c", "d"), ("c", "c")]
        no_pairs += [("a", None), ("b", "a"), ("a", "b")]
        no_pairs += [(thing, "a") for thing in NO_NAMES]
        no_pairs += [("c", thing) for thing in NO_NAMES if thing is not None]
        for thing in no_pairs:
            told = [("a", None), ("b", "a"), thing, ("d", "c"), None]
            self.assertEqual(number_of(self, NoTree, Tree, told), 2)
            self.assertEqual(told[2] is thing, True)
        self.assertEqual(number_of(self, NoTree, Tree, [("a", "b"), ("b", None)]), 0)

    def test_the_same_tree_told_in_another_order(self):
        told = [("a", None), ("e", None), ("b", "a"), ("c", "a"), ("d", "c")]
        self.assertEqual(Tree(told), sample())
        self.assertFalse(Tree(told) != sample())
        self.assertEqual(Tree(sample().pairs()), sample())

    def test_unlike_trees(self):
        for told in [
            [],
            TOLD[:4],
            [("a", None), ("c", "a"), ("d", "c"), ("b", "a"), ("e", None)],
            [("e", None), ("a", None), ("b", "a"), ("c", "a"), ("d", "c")],
            [("a", None), ("b", "a"), ("c", "a"), ("d", "a"), ("e", None)],
            [("a", None), ("b", "a"), ("c", "a"), ("d", "c"), ("f", None)],
        ]:
            self.assertNotEqual(Tree(told), sample())

    def test_equal_to_nothing_that_is_no_tree(self):
        for thing in [None, False, "a(b,c(d)),e", sample().columns(), sample().pairs(), Table(["a"]), ANYTHING]:
            self.assertIs(sample() == thing, False)
            self.assertIs(sample() != thing, True)
        self.assertIs(Tree([]) == Table([]), False)
        self.assertIs(Table([]) == Tree([]), False)

    def test_str(self):
        self.assertEqual(str(sample()), "a(b,c(d)),e")
        self.assertEqual(str(Tree([("abcdefgh", None)])), "abcdefgh")

    def test_many_trees_by_their_words(self):
        chance = random.Random(3)
        for _ in range(200):
            pairs = some_pairs(chance)
            tree, overs = Tree(pairs), dict(pairs)
            self.assertEqual(str(tree), text_by_its_words(pairs))
            order = [part for part in str(tree).replace("(", ",").replace(")", "").split(",") if part]
            self.assertEqual(tree.columns(), order)
            self.assertEqual(tree.pairs(), [(name, overs[name]) for name in order])
            for name in order:
                above = tree.above(name)
                self.assertEqual(above, tree.above(overs[name]) + [overs[name]] if overs[name] else [])
                self.assertEqual(tree.beneath(name), [x for x in order if x == name or name in tree.above(x)])
                self.assertEqual(tree.children(name), [x for x, over in pairs if over == name])
                self.assertEqual([x for x in order if tree.is_above(x, name)], above)


class Told(unittest.TestCase):
    def test_over(self):
        self.assertEqual([sample().over(name) for name in ["a", "b", "c", "d", "e"]], [None, "a", "a", "c", None])

    def test_above(self):
        self.assertEqual([sample().above(name) for name in ["a", "b", "d"]], [[], ["a"], ["a", "c"]])

    def test_beneath(self):
        self.assertEqual(sample().beneath("a"), ["a", "b", "c", "d"])
        self.assertEqual(sample().beneath("c"), ["c", "d"])
        self.assertEqual(sample().beneath("e"), ["e"])

    def test_children(self):
        self.assertEqual(sample().children("a"), ["b", "c"])
        self.assertEqual(sample().children("d"), [])
        for tops in [sample().children(), sample().children(None), sample().children(column=None)]:
            self.assertEqual(tops, ["a", "e"])

    def test_is_above(self):
        tree = sample()
        self.assertIs(tree.is_above("a", "d"), True)
        self.assertIs(tree.is_above("c", "d"), True)
        for one, other in [("d", "a"), ("a", "a"), ("b", "d"), ("a", "e"), ("d", "d")]:
            self.assertIs(tree.is_above(one, other), False)

    def test_by_name(self):
        tree = sample()
        for deed in [tree.over, tree.above, tree.beneath, tree.children]:
            self.assertEqual(deed(column="d"), deed("d"))
        self.assertIs(tree.is_above(one="a", other="d"), True)
        self.assertIs(tree.is_above(other="a", one="d"), False)
        self.assertEqual(Tree(pairs=TOLD), tree)

    def test_no_column(self):
        tree = sample()
        for thing in NO_NAMES + ["f", "ab"]:
            for deed in [tree.over, tree.above, tree.beneath]:
                self.assertIs(name_of(self, NoColumn, deed, thing), thing)
                self.assertIs(name_of(self, NoColumn, deed, column=thing), thing)
            if thing is not None:
                self.assertIs(name_of(self, NoColumn, tree.children, thing), thing)
            self.assertIs(name_of(self, NoColumn, tree.is_above, thing, "a"), thing)
            self.assertIs(name_of(self, NoColumn, tree.is_above, "a", thing), thing)
            self.assertIs(name_of(self, NoColumn, tree.is_above, thing, BRITTLE), thing)
        self.assertEqual(name_of(self, NoColumn, tree.is_above, "y", "x"), "y")
        self.assertEqual(tree, sample())

    def test_nothing_handed_in_is_kept_or_changed(self):
        told = list(TOLD)
        tree = Tree(told)
        self.assertEqual(told, TOLD)
        told[0] = ("z", None)
        told.append(("y", "z"))
        self.assertEqual(tree, sample())

    def test_told_lists_are_new_ones(self):
        tree = sample()
        for call in [tree.columns, tree.pairs, tree.children, lambda: tree.above("d"), lambda: tree.beneath("a"),
                     lambda: tree.children("a")]:
            before = call()
            call().clear()
            call().append("z")
            self.assertEqual(call(), before)
        self.assertEqual(tree, sample())

    def test_refused_pairs_stay_as_they_are(self):
        told = [("a", None), ("b", "c")]
        refused(self, NoTree, Tree, told)
        self.assertEqual(told, [("a", None), ("b", "c")])


class Fits(unittest.TestCase):
    def test_fits(self):
        tree = sample()
        for tables in [
            [],
            [Table([])],
            [Table(["d", "a", "c"]), Table(["b", "a"]), Table(["e"])],
            [Table(["a", "b"], [(1, 2)]), Table([], [()])],
        ]:
            self.assertIsNone(fits(tree, tables))
        self.assertIsNone(fits(Tree([]), [Table([])]))
        self.assertIsNone(fits(tree=tree, tables=[]))

    def test_the_first_two_that_do_not(self):
        tree = sample()
        self.assertEqual(fits(tree, [Table(["b", "c"])]), ("b", "c"))
        self.assertEqual(fits(tree, [Table(["c", "b"])]), ("c", "b"))
        self.assertEqual(fits(tree, [Table(["a", "d", "e", "b"])]), ("a", "e"))
        self.assertEqual(fits(tree, [Table(["d", "c", "e", "b", "a"])]), ("d", "e"))
        self.assertEqual(fits(tree, [Table(["a", "c", "b", "d"])]), ("c", "b"))
        self.assertEqual(fits(tree, [Table(["a", "d"]), Table(["e", "d"]), Table(["b", "c"])]), ("e", "d"))
        self.assertEqual(fits(tree=tree, tables=[Table(["e", "a"])]), ("e", "a"))

    def test_no_column_ahead_of_what_does_not_fit(self):
        tree = sample()
        self.assertEqual(name_of(self, NoColumn, fits, tree, [Table(["a", "x", "y"])]), "x")
        self.assertEqual(name_of(self, NoColumn, fits, tree, [Table(["b", "c"]), Table(["y", "x"])]), "y")
        self.assertEqual(name_of(self, NoColumn, fits, tree, [Table(["a"]), Table(["e", "z"]), Table(["x"])]), "z")
        self.assertEqual(name_of(self, NoColumn, fits, Tree([]), [Table([]), Table(["a"])]), "a")

    def test_nothing_handed_in_is_changed(self):
        tree, tables = sample(), [Table(["b", "c"], [(1, 2)])]
        fits(tree, tables)
        self.assertEqual((tree, tables), (sample(), [Table(["b", "c"], [(1, 2)])]))


class Beside(unittest.TestCase):
    def test_the_second_ones_tops_behind_the_first_ones(self):
        one, other = Tree([("m", None), ("k", None)]), sample()
        self.assertEqual(str(tree_beside(one, other)), "m,k,a(b,c(d)),e")
        self.assertEqual(str(tree_beside(one=other, other=one)), "a(b,c(d)),e,m,k")
        self.assertEqual(tree_beside(one, other).columns(), ["m", "k", "a", "b", "c", "d", "e"])
        self.assertEqual((one, other), (Tree([("m", None), ("k", None)]), sample()))

    def test_without_columns(self):
        self.assertEqual(tree_beside(Tree([]), sample()), sample())
        self.assertEqual(tree_beside(sample(), Tree([])), sample())
        self.assertEqual(tree_beside(Tree([]), Tree([])), Tree([]))

    def test_a_column_in_common(self):
        refused(self, NoColumns, tree_beside, sample(), Tree([("x", None), ("d", "x")]))
        refused(self, NoColumns, tree_beside, sample(), sample())

    def test_eight_together_and_more(self):
        rest = [("f", None), ("g", "f"), ("h", None)]
        self.assertEqual(str(tree_beside(sample(), Tree(rest))), "a(b,c(d)),e,f(g),h")
        refused(self, NoColumns, tree_beside, sample(), Tree(rest + [("i", "h")]))
        refused(self, NoColumns, tree_beside, Tree([(name, None) for name in EIGHT]), Tree(rest))


if __name__ == "__main__":
    unittest.main()
