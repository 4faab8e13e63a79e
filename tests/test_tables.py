"""Points 0.2, 1.1, 1.2 and 1.4: tables, what they tell and refuse, and kept_rows."""

import unittest

from foldbough.errors import NoColumn, NoColumns, NoRow, NoStretch
from foldbough.tables import Table, joined, kept_rows
from tests.helps import ANYTHING, BRITTLE, NO_NAMES, NO_WHOLES, ODD, name_of, number_of, refused

EIGHT = ["a", "b", "c", "d", "e", "f", "g", "h"]
BIG = 10 ** 40 - 1


def sample():
    return Table(["b", "a"], [(2, 9), (1, 5), (2, 9), (-3, 7), (1, 4)])


class Made(unittest.TestCase):
    def test_columns_as_told_and_rows_sorted_each_once(self):
        table = sample()
        self.assertEqual(table.columns(), ["b", "a"])
        self.assertEqual(table.rows(), [(-3, 7), (1, 4), (1, 5), (2, 9)])
        self.assertEqual(len(table), 4)

    def test_rows_are_sorted_by_numbers(self):
        table = Table(["a"], [(10,), (9,), (-10,), (-9,), (BIG,), (-BIG,), (0,)])
        self.assertEqual(table.rows(), [(-BIG,), (-10,), (-9,), (0,), (9,), (10,), (BIG,)])
        self.assertIs(table.has((BIG,)), True)
        self.assertIs(table.has((BIG - 1,)), False)

    def test_rows_left_out_or_none(self):
        for table in [Table(["a"]), Table(["a"], None), Table(["a"], []), Table(columns=["a"], rows=None)]:
            self.assertEqual(table.rows(), [])
            self.assertEqual(len(table), 0)
            self.assertEqual(table, Table(["a"]))

    def test_by_place_and_by_name(self):
        self.assertEqual(Table(columns=["a"], rows=[(1,)]), Table(["a"], [(1,)]))
        self.assertEqual(Table(rows=[(1,)], columns=["a"]), Table(["a"], [(1,)]))
        table = sample()
        self.assertIs(table.has(row=(1, 5)), True)
        self.assertEqual(table.with_row(row=(0, 0)), table.with_row((0, 0)))
        self.assertEqual(table.without_row(row=(1, 5)), table.without_row((1, 5)))
        self.assertEqual(table.of(columns=["a"]), table.of(["a"]))
        self.assertEqual(kept_rows(table=table, column="a", low=5, high=7), kept_rows(table, "a", 5, 7))
        self.assertEqual(joined(tables=[table]), joined([table]))

    def test_without_columns_one_row_or_none(self):
        for table in [Table([], [()]), Table([], [(), ()])]:
            self.assertEqual(table.rows(), [()])
            self.assertEqual(len(table), 1)
            self.assertIs(table.has(()), True)
        self.assertEqual(Table([]).rows(), [])
        self.assertIs(Table([]).has(()), False)
        self.assertEqual(Table([]).with_row(()), Table([], [()]))
        self.assertEqual(Table([], [()]).without_row(()), Table([]))
        self.assertNotEqual(Table([]), Table([], [()]))

    def test_eight_columns_and_nine(self):
        row = (1, 2, 3, 4, 5, 6, 7, 8)
        self.assertEqual(Table(EIGHT, [row]).rows(), [row])
        refused(self, NoColumns, Table, EIGHT + ["i"], [row + (9,)])

    def test_names_of_one_to_eight_small_letters(self):
        for name in ["a", "z", "abcdefgh", "zzzzzzzz"]:
            self.assertEqual(Table([name]).columns(), [name])
        for thing in NO_NAMES:
            refused(self, NoColumns, Table, [thing])
            refused(self, NoColumns, Table, ["a", thing])

    def test_columns_that_are_no_list_of_unlike_names(self):
        for thing in ODD + [None, 0, "", "a", (), ("a",), {"a": 1}, {"a"}, ["a", "a"], ["b", "a", "b"]]:
            refused(self, NoColumns, Table, thing)
            refused(self, NoColumns, Table, thing, [("x",)])
            refused(self, NoColumns, Table, columns=thing, rows=3)

    def test_rows_that_are_no_list(self):
        for thing in [True, False, 0, 1, "", "a", (), ((1,),), {}, {(1,): 1}, {(1,)}, ANYTHING, BRITTLE]:
            self.assertEqual(number_of(self, NoRow, Table, ["a"], thing), 0)
            self.assertEqual(number_of(self, NoRow, Table, [], rows=thing), 0)

    def test_first_thing_that_is_no_row(self):
        no_rows = ODD + [None, 1, "a", [1, 2], (), (1,), (1, 2, 3), "12"]
        no_rows += [(1, thing) for thing in NO_WHOLES] + [(thing, 1) for thing in NO_WHOLES]
        for thing in no_rows:
            self.assertEqual(number_of(self, NoRow, Table, ["a", "b"], [thing]), 0)
            self.assertEqual(number_of(self, NoRow, Table, ["a", "b"], [(1, 1), (1, 1), thing, None]), 2)
        self.assertEqual(number_of(self, NoRow, Table, [], [(), (0,)]), 1)
        self.assertEqual(number_of(self, NoRow, Table, [], [(), [], ()]), 1)

    def test_three_hundred_rows(self):
        rows = [(k * 7 % 300, -k) for k in range(300)]
        table = Table(["a", "b"], rows)
        self.assertEqual(table.rows(), sorted(rows))
        self.assertEqual(str(table), "300 rows of a,b")
        self.assertTrue(all(table.has(row) for row in rows))
        self.assertFalse(table.has((0, 1)))


class Told(unittest.TestCase):
    def test_has(self):
        table = sample()
        self.assertIs(table.has((1, 4)), True)
        self.assertIs(table.has((4, 1)), False)

    def test_with_row(self):
        table = sample()
        more = table.with_row((1, -1))
        self.assertEqual(more.rows(), [(-3, 7), (1, -1), (1, 4), (1, 5), (2, 9)])
        self.assertEqual(more.columns(), ["b", "a"])
        self.assertEqual(table, sample())
        self.assertEqual(table.with_row((1, 4)), table)
        self.assertEqual(len(table.with_row((1, 4))), 4)

    def test_without_row(self):
        table = sample()
        less = table.without_row((1, 4))
        self.assertEqual(less.rows(), [(-3, 7), (1, 5), (2, 9)])
        self.assertEqual(less.columns(), ["b", "a"])
        self.assertEqual(table, sample())
        self.assertEqual(table.without_row((1, -1)), table)

    def test_the_three_refuse_no_row_at_0(self):
        table = sample()
        for thing in ODD + [None, 3, "a", [1, 4], (), (1,), (1, 4, 4), (1, True), (1.0, 4), (1, None), ("1", 4)]:
            for deed in [table.has, table.with_row, table.without_row]:
                self.assertEqual(number_of(self, NoRow, deed, thing), 0)
                self.assertEqual(number_of(self, NoRow, deed, row=thing), 0)
        self.assertEqual(table, sample())
        self.assertEqual(number_of(self, NoRow, Table([]).has, []), 0)

    def test_of(self):
        table = sample()
        self.assertEqual(table.of(["a", "b"]).columns(), ["a", "b"])
        self.assertEqual(table.of(["a", "b"]).rows(), [(4, 1), (5, 1), (7, -3), (9, 2)])
        self.assertEqual(table.of(["b"]).rows(), [(-3,), (1,), (2,)])
        self.assertEqual(table.of(["a"]).rows(), [(4,), (5,), (7,), (9,)])
        self.assertEqual(table.of(["b", "a"]), table)

    def test_of_no_columns_and_of_no_rows(self):
        self.assertEqual(sample().of([]), Table([], [()]))
        self.assertEqual(Table(["a"]).of([]), Table([]))
        self.assertEqual(Table(["a", "b"]).of(["b"]), Table(["b"]))
        self.assertEqual(Table([], [()]).of([]), Table([], [()]))
        self.assertEqual(Table([]).of([]), Table([]))

    def test_of_refuses_lists_first_then_the_first_strange_name(self):
        table = sample()
        for thing in ODD + [None, 0, "a", ("a",), {"a"}, ["a", "a"], ["x", "x"], ["x", 1], ["x", None], ["x", [1]]]:
            refused(self, NoColumns, table.of, thing)
        refused(self, NoColumns, table.of, EIGHT + ["i"])
        self.assertEqual(name_of(self, NoColumn, table.of, ["a", "y", "b", "x"]), "y")
        self.assertEqual(name_of(self, NoColumn, table.of, columns=EIGHT), "c")

    def test_equal(self):
        self.assertEqual(sample(), Table(["b", "a"], sample().rows()))
        self.assertNotEqual(sample(), sample().of(["a", "b"]))
        self.assertNotEqual(Table(["a"], [(1,)]), Table(["b"], [(1,)]))
        self.assertNotEqual(Table(["a"], [(1,)]), Table(["a"], [(2,)]))
        self.assertNotEqual(Table(["a"]), Table(["b"]))
        self.assertFalse(sample() != sample())

    def test_equal_to_nothing_that_is_no_table(self):
        for thing in [None, True, 4, "4 rows of b,a", ["b", "a"], (["b", "a"], sample().rows()), object(), ANYTHING]:
            self.assertIs(sample() == thing, False)
            self.assertIs(sample() != thing, True)

    def test_str(self):
        self.assertEqual(str(Table(["a", "b"], [(1, 1), (1, 2), (2, 1)])), "3 rows of a,b")
        self.assertEqual(str(Table(["a"], [(1,)])), "1 rows of a")
        self.assertEqual(str(Table(["b", "a"])), "0 rows of b,a")
        self.assertEqual(str(Table([], [()])), "1 rows of ")
        self.assertEqual(str(Table([])), "0 rows of ")

    def test_nothing_handed_in_is_kept_or_changed(self):
        columns, rows = ["a", "b"], [(2, 1), (1, 2), (2, 1)]
        table = Table(columns, rows)
        self.assertEqual((columns, rows), (["a", "b"], [(2, 1), (1, 2), (2, 1)]))
        columns.append("c")
        rows.clear()
        self.assertEqual(table.columns(), ["a", "b"])
        self.assertEqual(table.rows(), [(1, 2), (2, 1)])
        some = ["b"]
        part = table.of(some)
        some[0] = "a"
        self.assertEqual(part, Table(["b"], [(1,), (2,)]))

    def test_told_lists_are_new_ones(self):
        table = sample()
        table.columns().append("z")
        table.rows().clear()
        self.assertEqual(table, sample())
        self.assertIsNot(table.columns(), table.columns())
        self.assertIsNot(table.rows(), table.rows())

    def test_rows_are_told_as_plain_tuples(self):
        class Row(tuple):
            pass

        table = Table(["a"], [Row((1,))]).with_row(Row((2,)))
        self.assertEqual([type(row) for row in table.rows()], [tuple, tuple])

    def test_what_is_refused_changes_nothing(self):
        columns, rows = ["a"], [(1,), (2,), None]
        refused(self, NoRow, Table, columns, rows)
        self.assertEqual((columns, rows), (["a"], [(1,), (2,), None]))


class Kept(unittest.TestCase):
    def test_both_ends_with_it(self):
        table = Table(["a", "b"], [(k, -k) for k in range(-2, 6)])
        self.assertEqual(kept_rows(table, "a", 1, 3).rows(), [(1, -1), (2, -2), (3, -3)])
        self.assertEqual(kept_rows(table, "b", -1, 1).rows(), [(-1, 1), (0, 0), (1, -1)])
        self.assertEqual(kept_rows(table, "a", 4, 4).rows(), [(4, -4)])
        self.assertEqual(kept_rows(table, "a", 6, BIG), Table(["a", "b"]))
        self.assertEqual(kept_rows(table, "a", -BIG, BIG), table)
        self.assertEqual(len(table), 8)

    def test_a_new_table(self):
        table = sample()
        for told in [kept_rows(table, "a", -BIG, BIG), table.of(["b", "a"]), joined([table]), joined([table, table])]:
            self.assertEqual(told, table)
            self.assertIsNot(told, table)

    def test_no_column_comes_first(self):
        table = sample()
        for thing in NO_NAMES + ["c", "ab"]:
            self.assertIs(name_of(self, NoColumn, kept_rows, table, thing, 1, 2), thing)
            self.assertIs(name_of(self, NoColumn, kept_rows, table, thing, 2, 1), thing)
            self.assertIs(name_of(self, NoColumn, kept_rows, table, thing, None, BRITTLE), thing)
        self.assertEqual(name_of(self, NoColumn, kept_rows, Table([], [()]), "a", 0, 0), "a")

    def test_then_no_stretch(self):
        table = sample()
        for thing in NO_WHOLES:
            refused(self, NoStretch, kept_rows, table, "a", thing, 1)
            refused(self, NoStretch, kept_rows, table, "a", 1, thing)
            refused(self, NoStretch, kept_rows, table, column="b", low=thing, high=thing)
        refused(self, NoStretch, kept_rows, table, "a", 2, 1)
        refused(self, NoStretch, kept_rows, Table(["a"]), "a", BIG, BIG - 1)
        self.assertEqual(table, sample())


if __name__ == "__main__":
    unittest.main()
