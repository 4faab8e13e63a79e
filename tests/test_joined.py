"""Point 1.3: the plain answer of several tables."""

import itertools
import random
import unittest

from foldbough.errors import NoColumns
from foldbough.tables import Table, joined
from tests.helps import refused

NAMES = ["a", "b", "c", "d", "e"]


def by_trying_all(tables, values):
    """The plain answer, by its words: every row over all columns that goes with a row of each table."""
    columns = list(dict.fromkeys(name for table in tables for name in table.columns()))
    rows = []
    for row in itertools.product(values, repeat=len(columns)):
        told = dict(zip(columns, row))
        if all(tuple(told[name] for name in table.columns()) in table.rows() for table in tables):
            rows.append(row)
    return Table(columns, rows)


def some_table(chance, values):
    columns = chance.sample(NAMES, chance.randrange(0, 4))
    rows = list(itertools.product(values, repeat=len(columns)))
    return Table(columns, [row for row in rows if chance.randrange(5) < 3])


class Joined(unittest.TestCase):
    def test_two_tables(self):
        one = Table(["b", "a"], [(1, 2), (1, 3), (4, 2)])
        other = Table(["c", "b"], [(7, 1), (8, 1), (9, 5)])
        told = joined([one, other])
        self.assertEqual(told.columns(), ["b", "a", "c"])
        self.assertEqual(told.rows(), [(1, 2, 7), (1, 2, 8), (1, 3, 7), (1, 3, 8)])
        self.assertEqual(joined([other, one]).columns(), ["c", "b", "a"])
        self.assertEqual(joined([other, one]), told.of(["c", "b", "a"]))

    def test_columns_in_the_order_in_which_they_first_come(self):
        tables = [Table(["d", "a"], [(1, 2)]), Table(["c", "a"], [(3, 2)]), Table(["a", "b", "d"], [(2, 4, 1)])]
        self.assertEqual(joined(tables), Table(["d", "a", "c", "b"], [(1, 2, 3, 4)]))

    def test_of_no_tables(self):
        self.assertEqual(joined([]), Table([], [()]))

    def test_of_one_table(self):
        table = Table(["b", "a"], [(k, -k) for k in range(300)])
        self.assertEqual(joined([table]), table)
        self.assertEqual(joined([table, table]), table)

    def test_all_columns_alike(self):
        one, other = Table(["a", "b"], [(1, 2), (3, 4)]), Table(["b", "a"], [(2, 1), (3, 4)])
        self.assertEqual(joined([one, other]), Table(["a", "b"], [(1, 2)]))

    def test_no_columns_in_common(self):
        one, other = Table(["a"], [(1,), (2,)]), Table(["b"], [(3,), (4,)])
        self.assertEqual(joined([one, other]).rows(), [(1, 3), (1, 4), (2, 3), (2, 4)])

    def test_a_table_without_rows(self):
        full = Table(["a"], [(1,), (2,)])
        self.assertEqual(joined([full, Table(["b"])]), Table(["a", "b"]))
        self.assertEqual(joined([Table(["b"]), full]), Table(["b", "a"]))
        self.assertEqual(joined([Table(["a"]), full]), Table(["a"]))

    def test_a_table_without_columns(self):
        full = Table(["a"], [(1,), (2,)])
        self.assertEqual(joined([full, Table([], [()])]), full)
        self.assertEqual(joined([Table([]), full]), Table(["a"]))
        self.assertEqual(joined([Table([])]), Table([]))
        self.assertEqual(joined([Table([], [()])]), Table([], [()]))

    def test_eight_columns_together_and_nine(self):
        one, other = Table(["a", "b", "c", "d"], [(1, 2, 3, 4)]), Table(["d", "e", "f", "g", "h"], [(4, 5, 6, 7, 8)])
        self.assertEqual(joined([one, other]).rows(), [(1, 2, 3, 4, 5, 6, 7, 8)])
        refused(self, NoColumns, joined, [one, other, Table(["i"], [(9,)])])
        refused(self, NoColumns, joined, [one, Table(["i"]), other])

    def test_nothing_handed_in_is_changed_or_kept(self):
        one, other = Table(["a"], [(1,)]), Table(["b"], [(2,)])
        tables = [one, other]
        told = joined(tables)
        self.assertEqual(len(tables), 2)
        self.assertIs(tables[0], one)
        self.assertIs(tables[1], other)
        tables.clear()
        self.assertEqual(told, Table(["a", "b"], [(1, 2)]))
        self.assertEqual((one, other), (Table(["a"], [(1,)]), Table(["b"], [(2,)])))

    def test_six_of_forty_rows_of_which_two_bar_each_other(self):
        forty = [(k,) for k in range(40)]
        for last in [[(k + 40,) for k in range(40)], []]:
            tables = [Table([name], forty) for name in ["a", "b", "c", "d", "e"]] + [Table(["e"], last)]
            self.assertEqual(joined(tables), Table(["a", "b", "c", "d", "e"]))

    def test_six_of_forty_rows_along_a_ring(self):
        rows = [(p, q) for p in range(9) for q in range(9) if (p + q) % 2 == 0][:40]
        odd = [(p, q) for p in range(9) for q in range(9) if (p + q) % 2 == 1]
        ring = [Table(pair, rows) for pair in (["a", "b"], ["b", "c"], ["c", "d"])]
        free = [Table([name], [(k,) for k in range(40)]) for name in ("f", "g")]
        self.assertEqual(len(joined(free[:1] + ring + [Table(["d", "a"], odd)] + free[1:])), 0)

    def test_a_thousand_rows(self):
        tables = [Table(["a", "b"], [(k, k % 2) for k in range(40)]), Table(["c"], [(k,) for k in range(25)])]
        tables += [Table(["b", "d"], [(0, 1), (1, 1)]), Table(["a"], [(k,) for k in range(40)])]
        self.assertEqual(joined(tables), Table(["a", "b", "c", "d"],
                                               [(k, k % 2, n, 1) for k in range(40) for n in range(25)]))

    def test_as_by_trying_all(self):
        chance = random.Random(5)
        values = [-1, 0, 7]
        for _ in range(150):
            tables = [some_table(chance, values) for _ in range(chance.randrange(0, 6))]
            self.assertEqual(joined(tables), by_trying_all(tables, values))


if __name__ == "__main__":
    unittest.main()
