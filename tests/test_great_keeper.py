"""Answers of a hundred million rows and more are kept through many puts and takes, and asked by a desk, quickly."""

import random
import time
import unittest

from foldbough.desk import Desk
from foldbough.errors import TooMany
from foldbough.joins import fold_join, keys_of
from foldbough.keeper import Keeper
from foldbough.texts import read_fold, show_fold
from foldbough.trees import Tree
from tests.helps import refused
from tests.plain_places import plain_come
from tests.test_great import MOST_SECONDS

STAR = Tree([("a", None)] + [(name, "a") for name in "bcdefg"])
TURNED = Tree([("b", None), ("a", "b")] + [(name, "a") for name in "cdefg"])


def great_keeper():
    """Six tables of forty rows about the values of a, and two questions along unlike trees."""
    keeper = Keeper()
    for name in "bcdefg":
        keeper.table(name, ["a", name])
    for name in "bcdefg":
        for at in range(39):
            keeper.put(name, (at % 2, at // 2))
    keeper.ask("star", list("bcdefg"), STAR)
    keeper.ask("turned", list("gfedcb"), TURNED)
    return keeper


class Great(unittest.TestCase):
    def setUp(self):
        self.begin = time.monotonic()

    def tearDown(self):
        self.assertLess(time.monotonic() - self.begin, MOST_SECONDS)

    def test_fifty_puts_and_takes(self):
        chance = random.Random(181)
        keeper = great_keeper()
        self.assertEqual(keeper.fold("star").count(), 20 ** 6 + 19 ** 6)
        for _ in range(50):
            name = chance.choice("bcdefg")
            rows = keeper.table_of(name).rows()
            # Taken out where the table is full, so that none has more than forty rows.
            row = chance.choice(rows) if len(rows) == 40 or chance.randrange(3) == 0 else (chance.randrange(2), 50)
            tables = {question: self.tables_of(keeper, question) for question in keeper.questions()}
            told = (keeper.take if row in rows and row[1] < 50 else keeper.put)(name, row)
            for question in keeper.questions():
                tree = keeper.asked(question)[1]
                behind = self.tables_of(keeper, question)
                come = {**plain_come(tables[question], tree), **plain_come(behind, tree)}
                found = [place[1:] for place in told if place[0] == question]
                self.check_told(keeper, question, come, found, name, row)
                self.assertEqual(keeper.fold(question), fold_join(behind, tree))
        self.assertGreater(keeper.fold("turned").count(), 10 ** 7)
        while keeper.deeds():
            keeper.undo()
        self.assertEqual(keeper.fold("star").count(), 0)

    def tables_of(self, keeper, question):
        return [keeper.table_of(name) for name in keeper.asked(question)[0]]

    def check_told(self, keeper, question, come, told, name, row):
        """What is told comes, in order, and its keys are alike the row that was put in or taken out."""
        tree = keeper.asked(question)[1]
        order = tree.columns()
        self.assertEqual(told, sorted(told, key=lambda place: (order.index(place[0]), place[1])))
        values = dict(zip(["a", name], row))
        for column, keys in told:
            self.assertIn((column, keys), come)
            self.assertIn(name, tree.beneath(column) + tree.above(column))
            named = dict(zip(keys_of(self.tables_of(keeper, question), tree, column), keys))
            self.assertTrue(all(named[key] == values[key] for key in named if key in values))

    def test_asked_by_a_desk(self):
        desk = Desk()
        for name in "bcdefg":
            self.assertEqual(desk.say(f"table {name} a,{name}"), "ok")
        self.assertEqual(desk.say("ask star b,c,d,e,f,g a(b,c,d,e,f,g)"), "ok")
        for at in range(40):
            for name in "bcdefg":
                desk.say(f"put {name} {at % 2},{at // 2}")
        many = 2 * 20 ** 6
        self.assertEqual(desk.say("count star"), f"{many} 7 122")
        self.assertEqual(str(read_fold(desk.say("fold star"))), f"{many} rows in 7 bunches")
        self.assertEqual(desk.say("row star 0"), "0,0,0,0,0,0,0")
        self.assertEqual(desk.say(f"row star {many - 1}"), "1,19,19,19,19,19,19")
        self.assertEqual(desk.say("place star 1,0,0,0,0,0,0"), str(20 ** 6))
        self.assertEqual(desk.say("sum star g"), str(190 * 2 * 20 ** 5))
        self.assertEqual(desk.say("by star a"), f"0:{20 ** 6} 1:{20 ** 6}")
        self.assertEqual(desk.say("part star b 1"), "20")
        self.assertEqual(desk.say("light star"), "a,g,f,e,d,c,b")
        self.assertEqual(desk.say("turn star g,f,e,d,c,b,a"), "fold 7 122")
        self.assertEqual(refused(self, TooMany, desk.say, "rows star").many, many)
        for at in range(50):
            self.assertEqual(desk.say(f"take b {at % 2},{at // 2}" if at < 40 else "undo"),
                             "star a -; star b {}".format(at % 2 if at < 40 else (79 - at) % 2))
        self.assertEqual(desk.say("count star").split(" ")[0], str(10 * 20 ** 5))

    def test_forty_rows_to_the_seventh(self):
        keeper = Keeper()
        for name in "abcdefg":
            keeper.table(name, [name])
            for at in range(40):
                keeper.put(name, (at,))
        keeper.ask("six", list("abcdef"), Tree([(name, None) for name in "abcdef"]))
        keeper.ask("way", list("bcdefg"), Tree([("b", None)] + list(zip("cdefg", "bcdef"))))
        for name in ["six", "way"]:
            self.assertEqual(keeper.fold(name).count(), 40 ** 6)
            self.assertEqual(read_fold(show_fold(keeper.fold(name))), keeper.fold(name))
        for at in range(50):
            name = "abcdefg"[at % 7]
            told = keeper.take(name, (at % 40,))
            self.assertEqual([place for place in told if place[0] == "six"], [("six", name, ())] if name != "g" else [])
            wanted = [("way", column, ()) for column in "bcdefg" if column <= name]
            self.assertEqual([place for place in told if place[0] == "way"], wanted)
            if at % 2:
                self.assertEqual(keeper.undo(), told)
        self.assertGreater(keeper.fold("way").count(), 10 ** 8)


if __name__ == "__main__":
    unittest.main()
