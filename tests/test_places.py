"""Points 4.2 to 4.5: places and their parts, and papers of them that are checked."""

import copy
import random
import unittest

from foldbough.joins import check_places, fold_join, keys_of, places
from foldbough.papers import fold_of, unfolded
from foldbough.tables import Table
from foldbough.trees import Tree
from tests.helps import NO_NAMES, NO_WHOLES, ODD
from tests.plain import answer, rows_of_bunch, some_folded, some_tables, some_tree
from tests.plain_places import plain_beneath, plain_part, plain_places, plain_values

EMPTY = Tree([])
TREE = Tree([("a", None), ("b", "a"), ("c", "b"), ("d", "a")])
TABLES = [Table(["a", "b"], [(1, 1), (1, 2), (2, 1), (3, 2), (4, 2)]), Table(["c"], [(5,), (6,)]),
          Table(["c", "b"], [(5, 1), (6, 1), (4, 2), (5, 3)]),
          Table(["d", "a"], [(7, 1), (8, 1), (7, 2), (9, 4), (9, 3)])]
TOLD = [("a", (), 0), ("b", (1,), 1), ("b", (2,), 1), ("b", (3,), None), ("b", (4,), None), ("c", (1,), 2),
        ("c", (2,), None), ("d", (1,), 3), ("d", (2,), 4)]


class Places(unittest.TestCase):
    def test_by_hand(self):
        fold = fold_join(TABLES, TREE)
        self.assertEqual(unfolded(fold), [(1, 1, 5, 7), (1, 1, 5, 8), (1, 1, 6, 7), (1, 1, 6, 8), (2, 1, 5, 7),
                                          (2, 1, 6, 7)])
        self.assertEqual(len(fold), 5)
        # The places of d at 3 and 4 have rows, but don't lie in the answer.
        self.assertEqual(places(TABLES, TREE), TOLD)
        self.assertEqual(places(tables=TABLES, tree=TREE), TOLD)

    def test_kinds_of_what_is_told(self):
        told = places(TABLES, TREE)
        self.assertIs(type(told), list)
        for place in told:
            self.assertEqual([type(thing) for thing in place[:2]], [str, tuple])
        told.clear()
        self.assertEqual(places(TABLES, TREE), TOLD)

    def test_the_same_part_at_a_place_that_does_not_lie_in_the_answer(self):
        # At a 2 the place of b has the same rows as at a 1, but that of c has none, so that it is left out.
        tree = Tree([("a", None), ("b", "a"), ("c", "a")])
        tables = [Table(["a", "b"], [(1, 5), (2, 5)]), Table(["a", "c"], [(1, 6), (2, 6)]), Table(["c"], [(6,)])]
        tables.append(Table(["a", "c"], [(1, 6), (2, 7)]))
        self.assertEqual(places(tables, tree), [("a", (), 0), ("b", (1,), 1), ("c", (1,), 2), ("c", (2,), None)])

    def test_an_answer_without_rows(self):
        tree = Tree([("a", None), ("b", "a"), ("c", None)])
        tables = [Table(["a", "b"], [(1, 2), (3, 4)]), Table(["c"])]
        self.assertEqual(places(tables, tree), [("c", (), None)])
        self.assertEqual(places([Table(["a", "b"]), Table(["c"], [(1,)])], tree), [("a", (), None)])
        self.assertEqual(places([Table(["a", "b"], [(1, 2)]), Table(["c"], [(1,)]), Table([])], tree), [])

    def test_no_columns(self):
        for tables in [[], [Table([], [()])], [Table([])]]:
            self.assertEqual(places(tables, EMPTY), [])

    def test_by_chance(self):
        chance = random.Random(54)
        seen = 0
        for _ in range(250):
            tree = some_tree(chance, 5)
            tables = some_tables(chance, tree, (1, 2, 3), chance.choice([2, 2, 3]))
            fold = fold_join(tables, tree)
            told, many = plain_places(tables, tree)
            found = places(tables, tree)
            self.assertEqual([place[:2] for place in found], [place for place, _ in told])
            for (column, _, number), (_, part) in zip(found, told):
                self.assertEqual(number is None, not part)
                if part:
                    self.assertEqual(fold.bunches()[number][0], column)
                    self.assertEqual(rows_of_bunch(fold.bunches(), number), part)
            seen += 0 < len(found) < many
            self.assertIs(check_places(tables, tree, fold, found), True)
        self.assertGreater(seen, 20)


def plain_check(tables, tree, fold, paper):
    """Whether the paper, of right kinds, shows the fold: the document's three points, by their words."""
    told = {(column, keys): number for column, keys, number in paper}
    barred = any(len(table.columns()) == 0 and not table.rows() for table in tables)
    tops = [(top, ()) for top in tree.children()]
    none = [place for place, number in told.items() if number is None]
    if fold.tops() is None:
        right = [barred or any(top in none for top in tops)]
    else:
        right = [not barred] + [told.get(top, -1) == number for top, number in zip(tops, fold.tops())]
    for place, number in told.items():
        values = plain_values(tables, tree, *place)
        entries = {} if number is None else dict(fold.bunches()[number][1])
        right.append(all(value in values for value in entries))
        for value in values:
            beneath = plain_beneath(tables, tree, *place, value)
            if value in entries:
                right += [told.get(part, -1) == many for part, many in zip(beneath, entries[value])]
            else:
                right.append(any(part in none for part in beneath))
    return all(right)


class Checked(unittest.TestCase):
    def setUp(self):
        self.fold = fold_join(TABLES, TREE)

    def check(self, paper):
        told = check_places(TABLES, TREE, self.fold, paper)
        self.assertIn(told, [True, False])
        self.assertIs(type(told), bool)
        return told

    def test_right_papers(self):
        self.assertIs(self.check(TOLD), True)
        self.assertIs(self.check(TOLD[::-1]), True)
        self.assertIs(check_places(tables=TABLES, tree=TREE, fold=self.fold, paper=list(TOLD)), True)
        # Places that don't come may stand there, where they are shown, too.
        for place in [("c", (3,), None), ("b", (9,), None), ("d", (-1,), None)]:
            self.assertIs(self.check(TOLD + [place]), place[0] != "c")
        # The place of c at 1 has the rows of the bunch 2; none of it has those of 3.
        self.assertIs(self.check(TOLD + [("d", (9,), 4)]), False)

    def test_all_places_are_needed_but_those_that_nothing_asks_for(self):
        tree = Tree([("a", None), ("b", "a"), ("c", "a")])
        tables = [Table(["a", "b"], [(1, 1), (2, 1)]), Table(["a", "c"], [(1, 5), (2, 5)])]
        tables += [Table(["a", "b"], [(1, 1), (2, 2)]), Table(["a", "c"], [(1, 5), (2, 6)])]
        fold = fold_join(tables, tree)
        told = places(tables, tree)
        self.assertEqual(told, [("a", (), 0), ("b", (1,), 1), ("b", (2,), None), ("c", (1,), 2), ("c", (2,), None)])
        self.assertIs(check_places(tables, tree, fold, told), True)
        # Of the two parts without rows one is enough.
        self.assertIs(check_places(tables, tree, fold, told[:2] + told[3:]), True)
        self.assertIs(check_places(tables, tree, fold, told[:4]), True)
        self.assertIs(check_places(tables, tree, fold, told[:2] + told[3:4]), False)
        for at in (0, 1, 3):
            self.assertIs(check_places(tables, tree, fold, told[:at] + told[at + 1:]), False)

    def test_no_list_of_places(self):
        good = list(TOLD)
        for thing in ODD + [None, 0, "", "abc", (), tuple(good), {}, dict.fromkeys(good)]:
            self.assertIs(self.check(thing), False)
        odd_places = ODD + [None, 0, "abc", (), [], ("a", ()), ("a", (), 0, 0), ["a", (), 0], ("a", [], 0)]
        odd_places += [(thing, (), None) for thing in NO_NAMES + ["x"]]
        odd_places += [("d", thing, None) for thing in ODD + [None, 9, [9]]]
        odd_places += [("d", (thing,), None) for thing in NO_WHOLES] + [("d", (), None), ("d", (9, 9), None)]
        odd_places += [("d", (9,), thing) for thing in ODD + ["", "4", [], (), (4,), -1, 5, 0, 1, 2, 10 ** 20]]
        for thing in odd_places:
            self.assertIs(self.check(good + [thing]), False)
            self.assertIs(self.check([thing]), False)

    def test_the_bunch_of_another_column(self):
        tree = Tree([("a", None), ("b", "a"), ("c", "a")])
        tables = [Table(["a", "b"], [(1, 5)]), Table(["a", "c"], [(1, 5), (9, 5)])]
        fold = fold_join(tables, tree)
        told = places(tables, tree)
        self.assertEqual(told, [("a", (), 0), ("b", (1,), 1), ("c", (1,), 2)])
        # The place of c at 9 doesn't come, but its part is that of the bunch 2; the bunch 1 has the same values.
        self.assertIs(check_places(tables, tree, fold, told + [("c", (9,), 2)]), True)
        self.assertIs(check_places(tables, tree, fold, told + [("c", (9,), 1)]), False)

    def test_no_place_twice(self):
        for place in TOLD:
            self.assertIs(self.check(TOLD + [place]), False)
            self.assertIs(self.check(TOLD + [place[:2] + (None,)]), False)
            self.assertIs(self.check([place[:2] + (0,)] + TOLD), False)

    def test_one_lacks_or_has_another_number(self):
        for at, (column, keys, number) in enumerate(TOLD):
            less = TOLD[:at] + TOLD[at + 1:]
            self.assertIs(self.check(less), False)
            for other in [None] + list(range(5)):
                if other != number:
                    self.assertIs(self.check(less + [(column, keys, other)]), False)

    def test_a_fold_along_another_tree(self):
        other = Tree([("a", None), ("d", "a"), ("b", "a"), ("c", "b")])
        fold = fold_join(TABLES, other)
        self.assertIs(check_places(TABLES, TREE, fold, TOLD), False)
        self.assertIs(check_places(TABLES, TREE, fold, places(TABLES, other)), False)
        self.assertIs(check_places(TABLES, TREE, fold_of(EMPTY, [], None), []), False)
        self.assertIs(check_places([], EMPTY, fold, []), False)

    def test_no_columns(self):
        there, none = fold_of(EMPTY, [], ()), fold_of(EMPTY, [], None)
        for tables, right, wrong in [([], there, none), ([Table([], [()])] * 2, there, none),
                                     ([Table([])], none, there), ([Table([], [()]), Table([])], none, there)]:
            self.assertIs(check_places(tables, EMPTY, right, []), True)
            self.assertIs(check_places(tables, EMPTY, wrong, []), False)
            self.assertIs(check_places(tables, EMPTY, right, None), False)
            self.assertIs(check_places(tables, EMPTY, right, [("a", (), None)]), False)

    def test_a_fold_without_rows(self):
        tree = Tree([("a", None), ("b", "a"), ("c", None)])
        none = fold_of(tree, [], None)
        tables = [Table(["a", "b"], [(1, 2), (3, 4)]), Table(["c"])]
        self.assertIs(check_places(tables, tree, none, [("c", (), None)]), True)
        self.assertIs(check_places(tables, tree, none, []), False)
        self.assertIs(check_places(tables, tree, none, [("a", (), None), ("c", (), None)]), False)
        # A table without columns and rows shows it without any place.
        self.assertIs(check_places(tables + [Table([])], tree, none, []), True)
        self.assertIs(check_places(tables + [Table([], [()])], tree, none, []), False)
        self.assertIs(check_places(tables + [Table([])], tree, none, [("a", (), None)]), False)
        full = [Table(["a", "b"], [(1, 2)]), Table(["c"], [(5,)])]
        fold = fold_join(full, tree)
        self.assertIs(check_places(full + [Table([])], tree, fold, places(full, tree)), False)
        self.assertIs(check_places(full + [Table([], [()])], tree, fold, places(full, tree)), True)

    def test_a_right_paper_shows_the_answer(self):
        # Whatever fold is handed in, only that of the answer has a paper that is right.
        chance = random.Random(55)
        right = 0
        for _ in range(300):
            tree = some_tree(chance, 3, 1)
            tables = some_tables(chance, tree, (1, 2), 3)
            fold = fold_of(tree, *some_folded(chance, tree, (1, 2)))
            if chance.randrange(2):
                fold = fold_join(tables, tree)
            for paper in self.papers(chance, tables, tree, fold):
                told = check_places(tables, tree, fold, paper)
                self.assertIs(told, plain_check(tables, tree, fold, paper))
                if told:
                    right += 1
                    self.assertEqual(unfolded(fold), answer(tables, tree))
        self.assertGreater(right, 100)

    def papers(self, chance, tables, tree, fold):
        """What places tells, and some of it changed, left out or put to it."""
        told = [place for place in places(tables, tree) if place[2] is None or place[2] < len(fold)]
        told = [place for place in told if place[2] is None or fold.bunches()[place[2]][0] == place[0]]
        yield told
        for _ in range(8):
            paper = {place[:2]: place[2] for place in told if chance.randrange(8)}
            for _ in range(chance.randrange(3)):
                column = chance.choice(tree.columns())
                keys = tuple(chance.choice((1, 2)) for _ in keys_of(tables, tree, column))
                own = [number for number, bunch in enumerate(fold.bunches()) if bunch[0] == column]
                paper[(column, keys)] = chance.choice([None] + own)
            yield [(column, keys, number) for (column, keys), number in paper.items()]

    def test_handed_in_stays_as_it_is(self):
        paper = copy.deepcopy(TOLD) + [["a", {}, 0]]
        told = copy.deepcopy(paper)
        self.check(paper)
        self.assertEqual(paper, told)
        self.assertEqual(self.fold, fold_join(TABLES, TREE))


if __name__ == "__main__":
    unittest.main()
