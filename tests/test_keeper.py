"""Points 9.1 to 9.4: keepers, their tables and questions, and what rows put in and taken out change."""

import random
import unittest

from foldbough.errors import FoldError, NoColumn, NoColumns, NoFit, NoName, NoRow, NothingDone, TooMany
from foldbough.joins import fold_join, keys_of
from foldbough.keeper import Keeper
from foldbough.papers import single, unfolded
from foldbough.tables import Table, joined
from foldbough.trees import Tree, fits
from tests.helps import NO_NAMES, NO_WHOLES, ODD, name_of, number_of, refused
from tests.plain import EMPTY, NO_ROWS, ONE, UNIT, check_fold, tree_of
from tests.plain_places import plain_changes, plain_come, plain_part

TREE = Tree([("b", None), ("a", "b"), ("c", "b")])
OTHER = Tree([("a", None), ("b", "a")])
WIDE = Tree([("a", None), ("b", "a"), ("c", "b"), ("d", None), ("e", "d")])
NO_LISTS = [thing for thing in ODD if not isinstance(thing, list)] + [None, 0, "a", (), ("a",)]


def told(keeper):
    """All that a keeper tells of how it stands."""
    tables = [(name, keeper.table_of(name).columns(), keeper.table_of(name).rows()) for name in keeper.tables()]
    return (tables, [(name, keeper.asked(name)) for name in keeper.questions()], keeper.deeds())


def small_keeper():
    """Tables r and s, questions along unlike trees, and some rows."""
    keeper = Keeper()
    keeper.table("r", ["a", "b"])
    keeper.table("s", ["b", "c"])
    keeper.table("t", [])
    keeper.ask("q", ["r", "s"], TREE)
    keeper.ask("r", ["r", "r", "t"], OTHER)
    for name, row in [("r", (1, 7)), ("r", (2, 7)), ("s", (7, 5)), ("t", ())]:
        keeper.put(name, row)
    return keeper


def full_keeper(many):
    """A keeper whose question w has so many places from 381 on, and rows that make another one in table v."""
    keeper = Keeper()
    keeper.table("t", ["a", "c"])
    keeper.table("u", ["b", "c"])
    keeper.table("v", ["d", "e"])
    for at in range(18):
        keeper.put("t", (at, 0))
    for at in range(20):
        keeper.put("u", (at, at % 2))
    # One place of a, one of b for each value of a, one of c for each of both, one of d and one for each value of d.
    for at in range(many - 1 - 18 - 18 * 20 - 1):
        keeper.put("v", (at, 0))
    return keeper


class Tables(unittest.TestCase):
    def test_a_new_one_has_none(self):
        keeper = Keeper()
        self.assertEqual((keeper.tables(), keeper.questions(), keeper.deeds()), ([], [], []))
        refused(self, NothingDone, keeper.undo)

    def test_by_hand(self):
        keeper = Keeper()
        self.assertIsNone(keeper.table("zz", ["b", "a"]))
        self.assertIsNone(keeper.table(name="a", columns=[]))
        self.assertEqual(keeper.tables(), ["a", "zz"])
        self.assertEqual((keeper.table_of("zz"), keeper.table_of(name="a")), (Table(["b", "a"]), Table([])))
        keeper.put("zz", (3, 4))
        self.assertEqual(keeper.table_of("zz"), Table(["b", "a"], [(3, 4)]))

    def test_no_name_ahead_of_no_columns(self):
        keeper = small_keeper()
        stands = told(keeper)
        for thing in NO_NAMES + ["r", "s", "t"]:
            self.assertIs(name_of(self, NoName, keeper.table, thing, ["a"]), thing)
            self.assertIs(name_of(self, NoName, keeper.table, thing, None), thing)
        for thing in NO_LISTS + [["a", "a"], ["A"], list("abcdefghi"), [None]]:
            refused(self, NoColumns, keeper.table, "x", thing)
        self.assertEqual(told(keeper), stands)
        keeper.table("q", ["a"])
        self.assertEqual(keeper.tables(), ["q", "r", "s", "t"])

    def test_no_such_table(self):
        keeper = small_keeper()
        stands = told(keeper)
        for thing in NO_NAMES + ["q", "x"]:
            self.assertIs(name_of(self, NoName, keeper.table_of, thing), thing)
            for call in [keeper.put, keeper.take]:
                self.assertIs(name_of(self, NoName, call, thing, (1, 2)), thing)
                self.assertIs(name_of(self, NoName, call, thing, None), thing)
        self.assertEqual(told(keeper), stands)

    def test_handed_in_stays_as_it_is_and_is_not_kept(self):
        keeper, columns, names = Keeper(), ["a", "b"], ["r", "r"]
        keeper.table("r", columns)
        columns.clear()
        self.assertEqual(keeper.table_of("r").columns(), ["a", "b"])
        keeper.ask("q", names, OTHER)
        self.assertEqual(names, ["r", "r"])
        names.append("x")
        self.assertEqual(keeper.asked("q"), (["r", "r"], OTHER))


class Questions(unittest.TestCase):
    def test_by_hand(self):
        keeper = small_keeper()
        self.assertEqual(keeper.questions(), ["q", "r"])
        self.assertEqual(keeper.asked("r"), (["r", "r", "t"], OTHER))
        self.assertIs(type(keeper.asked(name="q")), tuple)
        self.assertEqual(unfolded(keeper.fold("q")), [(7, 1, 5), (7, 2, 5)])
        self.assertEqual(unfolded(keeper.fold(name="r")), [(1, 7), (2, 7)])
        self.assertIsNone(keeper.ask(name="z", names=["s"], tree=Tree([("c", None), ("b", "c")])))
        self.assertEqual(unfolded(keeper.fold("z")), [(5, 7)])

    def test_let_go_and_asked_anew(self):
        keeper = small_keeper()
        self.assertIsNone(keeper.drop("q"))
        self.assertEqual(keeper.questions(), ["r"])
        for call in [keeper.drop, keeper.asked, keeper.fold]:
            self.assertEqual(name_of(self, NoName, call, "q"), "q")
        self.assertEqual(name_of(self, NoName, keeper.part, "q", "b", ()), "q")
        self.assertEqual(keeper.put("s", (7, 6)), [])
        keeper.ask("q", ["s"], Tree([("b", None), ("c", "b")]))
        self.assertEqual(unfolded(keeper.fold("q")), [(7, 5), (7, 6)])
        self.assertEqual(keeper.undo(), [("q", "b", ()), ("q", "c", (7,))])
        self.assertIsNone(keeper.drop(name="r"))

    def test_no_tables(self):
        keeper = Keeper()
        keeper.ask("q", [], EMPTY)
        self.assertEqual((keeper.fold("q"), keeper.asked("q")), (UNIT, ([], EMPTY)))
        refused(self, NoColumns, keeper.ask, "r", [], ONE)
        self.assertEqual(name_of(self, NoColumn, keeper.part, "q", "a", ()), "a")

    def test_tables_without_columns(self):
        keeper = Keeper()
        keeper.table("t", [])
        keeper.ask("q", ["t", "t"], EMPTY)
        self.assertEqual(keeper.fold("q"), NO_ROWS[0])
        self.assertEqual(keeper.put("t", ()), [])
        self.assertEqual(keeper.fold("q"), UNIT)
        self.assertEqual(keeper.take("t", ()), [])
        self.assertEqual(keeper.fold("q"), NO_ROWS[0])
        self.assertEqual((keeper.undo(), keeper.fold("q")), ([], UNIT))

    def test_no_name_ahead_of_all(self):
        keeper = small_keeper()
        stands = told(keeper)
        for thing in NO_NAMES + ["q", "r"]:
            self.assertIs(name_of(self, NoName, keeper.ask, thing, ["x"], ONE), thing)
            self.assertIs(name_of(self, NoName, keeper.ask, thing, ["r", "s"], TREE), thing)
        for thing in NO_NAMES + ["q", "x"]:
            self.assertIs(name_of(self, NoName, keeper.ask, "z", ["r", thing, "y"], ONE), thing)
            self.assertIs(name_of(self, NoName, keeper.ask, "z", [thing, thing], TREE), thing)
        self.assertEqual(told(keeper), stands)

    def test_as_fold_join_is_refused(self):
        keeper = small_keeper()
        stands = told(keeper)
        for names, tree in [(["r", "s"], OTHER), (["r"], TREE), (["t"], ONE), (["r", "s"], ONE), (["r"], EMPTY)]:
            refused(self, NoColumns, keeper.ask, "z", names, tree)
        error = refused(self, NoFit, keeper.ask, "z", ["r"], Tree([("a", None), ("b", None)]))
        self.assertEqual((error.one, error.other), ("a", "b"))
        error = refused(self, NoFit, keeper.ask, "z", ["r", "s"], Tree([("b", None), ("a", "b"), ("c", None)]))
        self.assertEqual((error.one, error.other), ("b", "c"))
        self.assertEqual(told(keeper), stands)

    def test_no_such_question(self):
        keeper = small_keeper()
        keeper.drop("r")
        stands = told(keeper)
        for thing in NO_NAMES + ["s", "r", "x"]:
            for call in [keeper.drop, keeper.asked, keeper.fold]:
                self.assertIs(name_of(self, NoName, call, thing), thing)
            self.assertIs(name_of(self, NoName, keeper.part, thing, "x", None), thing)
        self.assertEqual(told(keeper), stands)


class Part(unittest.TestCase):
    def test_by_hand(self):
        keeper = small_keeper()
        self.assertEqual(unfolded(keeper.part("q", "b", ())), [(7, 1, 5), (7, 2, 5)])
        fold = keeper.part(name="q", column="a", keys=(7,))
        self.assertEqual((str(fold.tree()), unfolded(fold)), ("a", [(1,), (2,)]))
        self.assertEqual(unfolded(keeper.part("q", "c", (7,))), [(5,)])
        # Whether the place comes makes no difference.
        keeper.put("s", (8, 4))
        self.assertEqual(unfolded(keeper.part("q", "c", (8,))), [(4,)])
        self.assertEqual(unfolded(keeper.part("q", "a", (8,))), [])
        check_fold(self, keeper.part("q", "c", (9,)), Tree([("c", None)]), [])
        keeper.take("t", ())
        self.assertEqual(unfolded(keeper.part("r", "a", ())), [(1, 7), (2, 7)])

    def test_no_name_ahead_of_no_column_ahead_of_no_row(self):
        keeper = small_keeper()
        for thing in NO_NAMES + ["x", "d"]:
            self.assertIs(name_of(self, NoName, keeper.part, thing, "d", ()), thing)
            self.assertIs(name_of(self, NoColumn, keeper.part, "q", thing, None), thing)
            self.assertIs(name_of(self, NoColumn, keeper.part, "r", thing, ()), thing)
        for thing in ODD + [None, 0, "", [7], (), (1, 2), (None,)] + [(thing,) for thing in NO_WHOLES]:
            self.assertEqual(number_of(self, NoRow, keeper.part, "q", "a", thing), 0)
        for thing in ODD + [None, 0, "", [], (7,)]:
            self.assertEqual(number_of(self, NoRow, keeper.part, "q", "b", thing), 0)


class Deeds(unittest.TestCase):
    def test_by_hand(self):
        keeper = Keeper()
        keeper.table("r", ["a", "b"])
        keeper.table("s", ["b", "c"])
        keeper.ask("q", ["r", "s"], TREE)
        keeper.ask("p", ["r"], OTHER)
        # Of q the place of b has no rows yet.
        self.assertEqual(keeper.put("r", (1, 7)), [("p", "a", ()), ("p", "b", (1,))])
        # The place of a at 7 comes now, but it had its part already.
        self.assertEqual(keeper.put(table="s", row=(7, 5)), [("q", "b", ()), ("q", "c", (7,))])
        self.assertEqual(keeper.put("r", (2, 7)), [("p", "a", ()), ("p", "b", (2,)), ("q", "b", ()), ("q", "a", (7,))])
        self.assertEqual(keeper.take(table="s", row=(7, 5)), [("q", "b", ()), ("q", "c", (7,))])
        self.assertEqual(keeper.undo(), [("q", "b", ()), ("q", "c", (7,))])
        self.assertEqual(keeper.deeds(), [("put", "r", (1, 7)), ("put", "s", (7, 5)), ("put", "r", (2, 7))])

    def test_what_changes_nothing_is_told_and_undone_as_a_deed(self):
        keeper = small_keeper()
        ahead = keeper.deeds()
        self.assertEqual(keeper.put("r", (1, 7)), [])
        self.assertEqual(keeper.take("r", (5, 5)), [])
        self.assertEqual(keeper.put("t", ()), [])
        self.assertEqual(keeper.deeds(), ahead + [("put", "r", (1, 7)), ("take", "r", (5, 5)), ("put", "t", ())])
        for _ in range(3):
            self.assertEqual(keeper.undo(), [])
        self.assertEqual(keeper.table_of("r").rows(), [(1, 7), (2, 7)])
        self.assertEqual(keeper.deeds(), ahead)

    def test_until_nothing_is_done(self):
        keeper = small_keeper()
        for many in range(4, 0, -1):
            self.assertEqual(len(keeper.deeds()), many)
            keeper.undo()
        stands = told(keeper)
        refused(self, NothingDone, keeper.undo)
        self.assertEqual(told(keeper), stands)
        self.assertEqual([len(keeper.table_of(name)) for name in "rst"], [0, 0, 0])

    def test_no_row(self):
        keeper = small_keeper()
        stands = told(keeper)
        for call in [keeper.put, keeper.take]:
            for thing in ODD + [None, 0, "ab", [1, 7], (), (1,), (1, 7, 5), (1, None), (True, 7)]:
                self.assertEqual(number_of(self, NoRow, call, "r", thing), 0)
                self.assertIs(name_of(self, NoName, call, "x", thing), "x")
            for thing in ODD + [None, 0, "", [], (1,)]:
                self.assertEqual(number_of(self, NoRow, call, "t", thing), 0)
        self.assertEqual(told(keeper), stands)

    def test_told_lists_are_new_ones(self):
        keeper = small_keeper()
        stands = told(keeper)
        for call in [keeper.tables, keeper.questions, keeper.deeds]:
            call().append("x")
        keeper.asked("q")[0].clear()
        keeper.table_of("r").columns().clear()
        keeper.fold("q").bunches().clear()
        keeper.put("r", (9, 9)).append("x")
        keeper.undo().append("x")
        self.assertEqual(told(keeper), stands)


class TooManyPlaces(unittest.TestCase):
    def test_four_hundred_and_one_more(self):
        keeper = full_keeper(400)
        keeper.ask("w", ["t", "u", "v"], WIDE)
        self.assertEqual(len(plain_come([keeper.table_of(name) for name in "tuv"], WIDE)), 400)
        stands = told(keeper)
        self.assertEqual(refused(self, TooMany, keeper.put, "v", (20, 0)).many, 400)
        self.assertEqual(refused(self, TooMany, keeper.put, "t", (50, 0)).many, 400)
        self.assertEqual(number_of(self, NoRow, keeper.put, "v", (20,)), 0)
        self.assertEqual(told(keeper), stands)
        # One that makes no further place is let in, and so is one where another was taken.
        self.assertEqual(keeper.put("v", (19, 1)), [("w", "d", ()), ("w", "e", (19,))])
        self.assertEqual(len(keeper.take("v", (0, 0))), 2)
        self.assertEqual(keeper.put("v", (20, 0)), [("w", "d", ()), ("w", "e", (20,))])
        keeper.drop("w")
        self.assertEqual(keeper.put("v", (21, 0)), [])
        self.assertEqual(refused(self, TooMany, keeper.ask, "w", ["t", "u", "v"], WIDE).many, 400)
        self.assertEqual(keeper.questions(), [])
        self.assertEqual(keeper.undo(), [])
        keeper.ask("w", ["t", "u", "v"], WIDE)

    def test_of_any_of_the_questions(self):
        keeper = full_keeper(400)
        keeper.ask("b", ["v"], Tree([("d", None), ("e", "d")]))
        keeper.ask("w", ["t", "u", "v"], WIDE)
        keeper.ask("z", ["v"], Tree([("e", None), ("d", "e")]))
        stands = told(keeper)
        self.assertEqual(refused(self, TooMany, keeper.put, "v", (20, 0)).many, 400)
        self.assertEqual(told(keeper), stands)

    def test_undone(self):
        keeper = full_keeper(401)
        keeper.take("v", (3, 0))
        keeper.ask("w", ["t", "u", "v"], WIDE)
        stands = told(keeper)
        self.assertEqual(refused(self, TooMany, keeper.undo).many, 400)
        self.assertEqual(told(keeper), stands)
        self.assertEqual(keeper.deeds()[-1], ("take", "v", (3, 0)))
        keeper.take("v", (4, 0))
        self.assertEqual(len(keeper.undo()), 2)
        keeper.drop("w")
        self.assertEqual(keeper.undo(), [])
        self.assertEqual(len(keeper.table_of("v")), 21)


class Twins(unittest.TestCase):
    def test_have_nothing_in_common(self):
        keeper = small_keeper()
        twin = keeper.twin()
        self.assertIs(type(twin), Keeper)
        stands = told(keeper)
        self.assertEqual(told(twin), stands)
        twin.put("r", (3, 7))
        twin.table("z", ["a"])
        twin.drop("r")
        twin.undo()
        twin.undo()
        self.assertEqual(told(keeper), stands)
        self.assertEqual(unfolded(keeper.fold("r")), [(1, 7), (2, 7)])
        stands = told(twin)
        keeper.take("s", (7, 5))
        keeper.ask("z", ["s", "s"], Tree([("b", None), ("c", "b")]))
        keeper.table("y", [])
        self.assertEqual(told(twin), stands)
        self.assertEqual(told(Keeper()), ([], [], []))


class ByChance(unittest.TestCase):
    """Keepers told many deeds, each answer held against all places and against the tables as they stand."""

    def some_keeper(self, chance):
        keeper = Keeper()
        names = chance.sample(["a", "b", "r", "s", "tt", "u"], chance.randrange(1, 6))
        for name in names:
            keeper.table(name, chance.sample("abcd", chance.choice([0, 1, 1, 2, 2, 2, 3])))
        asked = 0
        for _ in range(60):
            told = [chance.choice(names) for _ in range(chance.randrange(5))]
            columns = {column for name in told for column in keeper.table_of(name).columns()}
            tree = tree_of(chance, sorted(columns))
            if asked < 4 and fits(tree, [keeper.table_of(name) for name in told]) is None:
                keeper.ask("abcd"[asked], told, tree)
                asked += 1
        return keeper

    def test_deeds(self):
        chance = random.Random(151)
        changed = 0
        for _ in range(50):
            keeper = self.some_keeper(chance)
            tables = {name: keeper.table_of(name) for name in keeper.tables()}
            deeds = []
            for _ in range(25):
                behind, told_places, deeds = self.do_some_deed(chance, keeper, tables, deeds)
                wanted = [(name, column, keys) for name in keeper.questions()
                          for column, keys in plain_changes(*self.tables_of(keeper, name, tables, behind))]
                self.assertEqual(told_places, wanted)
                tables = behind
                changed += len(wanted)
                self.assertEqual({name: keeper.table_of(name) for name in tables}, tables)
                self.assertEqual(keeper.deeds(), [deed[:3] for deed in deeds])
            self.check_answers(chance, keeper, tables)
            self.check_anew(keeper)
        self.assertGreater(changed, 500)

    def do_some_deed(self, chance, keeper, tables, deeds):
        """The tables behind a deed, the places told, and the deeds that stand."""
        if chance.randrange(5) == 0 and deeds:
            word, name, _, ahead = deeds[-1]
            return {**tables, name: ahead}, keeper.undo(), deeds[:-1]
        name = chance.choice(sorted(tables))
        row = tuple(chance.randrange(3) for _ in tables[name].columns())
        if chance.randrange(5) < 2 and len(tables[name]) > 0:
            row = chance.choice(tables[name].rows())
        if chance.randrange(3) > 0:
            word, behind, places = "put", tables[name].with_row(row), keeper.put(name, row)
        else:
            word, behind, places = "take", tables[name].without_row(row), keeper.take(name, row)
        return {**tables, name: behind}, places, deeds + [(word, name, row, tables[name])]

    def tables_of(self, keeper, question, ahead, behind):
        names, tree = keeper.asked(question)
        return [ahead[name] for name in names], [behind[name] for name in names], tree

    def check_answers(self, chance, keeper, tables):
        for question in keeper.questions():
            names, tree = keeper.asked(question)
            told_tables = [tables[name] for name in names]
            fold = keeper.fold(question)
            self.assertEqual(fold, fold_join(told_tables, tree))
            check_fold(self, fold, tree, joined(told_tables).of(tree.columns()).rows())
            for column in tree.columns():
                beneath = tree.beneath(column)
                inner = Tree([(name, over if over in beneath else None) for name, over in tree.pairs()
                              if name in beneath])
                for _ in range(4):
                    keys = tuple(chance.randrange(4) for _ in keys_of(told_tables, tree, column))
                    rows = plain_part(told_tables, tree, column, keys)
                    check_fold(self, keeper.part(question, column, keys), inner, rows)

    def check_anew(self, keeper):
        """A keeper made anew that is told the deeds that stand stands alike."""
        other = Keeper()
        for name in keeper.tables():
            other.table(name, keeper.table_of(name).columns())
        for word, name, row in keeper.deeds():
            (other.put if word == "put" else other.take)(name, row)
        for name in keeper.questions():
            other.ask(name, *keeper.asked(name))
        self.assertEqual(told(other), told(keeper))
        for name in keeper.questions():
            self.assertEqual(other.fold(name), keeper.fold(name))

    def test_refusals_change_nothing(self):
        chance = random.Random(152)
        for _ in range(40):
            keeper = self.some_keeper(chance)
            for _ in range(30):
                stands = told(keeper)
                try:
                    self.some_call(chance, keeper)
                except FoldError:
                    self.assertEqual(told(keeper), stands)

    def some_call(self, chance, keeper):
        name = chance.choice(["a", "b", "r", "s", "tt", "x", None, 3])
        row = tuple(chance.randrange(3) for _ in range(chance.randrange(4)))
        names = [chance.choice(["a", "b", "r", "x", None]) for _ in range(chance.randrange(3))]
        tree = tree_of(chance, chance.sample("abcd", chance.randrange(4)))
        deed = chance.randrange(7)
        if deed < 2:
            (keeper.put if deed else keeper.take)(name, row)
        elif deed == 2:
            keeper.undo()
        elif deed == 3:
            keeper.ask(name, names, tree)
        elif deed == 4:
            keeper.drop(name)
        elif deed == 5:
            keeper.table(name, chance.sample("abcdA", 2))
        else:
            keeper.part(name, chance.choice("abcd"), row)


class Kinds(unittest.TestCase):
    def test_of_what_is_told(self):
        keeper = small_keeper()
        for place in keeper.put("r", (3, 7)):
            self.assertEqual([type(thing) for thing in place], [str, str, tuple])
        self.assertEqual(keeper.deeds()[-1], ("put", "r", (3, 7)))
        self.assertEqual(keeper.part("r", "b", (3,)), single(Tree([("b", None)]), (7,)))


if __name__ == "__main__":
    unittest.main()
