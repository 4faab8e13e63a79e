"""Point 6.3: walkers, which step, go back and go to bounds, and their twins."""

import random
import unittest

from foldbough.errors import NoPlace, NoRow
from foldbough.papers import fold_of, single, unfolded
from foldbough.walker import Walker
from tests.helps import ANYTHING, BRITTLE, NO_WHOLES, ODD, number_of
from tests.plain import BIG, HAND_ROWS, NO_ROWS, ONE, UNIT, hand, some_folds

NO_BOUNDS = ODD + [None, 1, "abc", [1, 7, 5], (), (1,), (1, 7), (1, 7, 5, 5), (1, 7, True), (None, 7, 5), (1, 7.0, 5)]


def first_at_least(rows, bound):
    return next((number for number, row in enumerate(rows) if row >= bound), None)


class Walking(unittest.TestCase):
    def stands_at(self, walker, rows, number):
        self.assertEqual(walker.where(), number)
        self.assertEqual(walker.row(), rows[number])

    def test_by_hand(self):
        walker = Walker(hand())
        self.stands_at(walker, HAND_ROWS, 0)
        self.assertEqual(walker.step(), (1, 9, 5))
        self.assertEqual(walker.step(3), (4, 9, 5))
        self.stands_at(walker, HAND_ROWS, 4)
        self.assertEqual(walker.back(), (4, 7, 6))
        self.assertEqual(walker.back(2), (1, 9, 5))
        self.assertEqual(walker.to((4, 7, 6)), (4, 7, 6))
        self.stands_at(walker, HAND_ROWS, 3)
        self.assertEqual(walker.to((2, 100, -5)), (4, 7, 5))
        self.assertEqual(walker.to((-BIG, BIG, BIG)), (1, 7, 5))
        self.stands_at(walker, HAND_ROWS, 0)

    def test_arguments_by_name(self):
        walker = Walker(fold=hand())
        self.assertEqual(walker.step(many=4), HAND_ROWS[4])
        self.assertEqual(walker.back(many=3), HAND_ROWS[1])
        self.assertEqual(walker.to(row=(4, 9, 6)), HAND_ROWS[5])

    def test_to_the_last_row_and_one_beyond(self):
        walker = Walker(hand())
        self.assertEqual(number_of(self, NoPlace, walker.step, 6), 6)
        self.stands_at(walker, HAND_ROWS, 0)
        self.assertEqual(walker.step(5), HAND_ROWS[5])
        self.assertEqual(number_of(self, NoPlace, walker.step), 6)
        self.assertEqual(number_of(self, NoPlace, walker.step, BIG), 5 + BIG)
        self.assertEqual(number_of(self, NoPlace, walker.back, 6), -1)
        self.stands_at(walker, HAND_ROWS, 5)
        self.assertEqual(walker.back(5), HAND_ROWS[0])
        self.assertEqual(number_of(self, NoPlace, walker.back), -1)
        self.assertEqual(number_of(self, NoPlace, walker.back, BIG), -BIG)
        self.stands_at(walker, HAND_ROWS, 0)

    def test_by_none(self):
        walker = Walker(hand())
        for number, row in enumerate(HAND_ROWS):
            walker.to(row)
            self.assertEqual(walker.step(0), row)
            self.assertEqual(walker.back(0), row)
            self.stands_at(walker, HAND_ROWS, number)

    def test_no_rows(self):
        for fold in NO_ROWS:
            bound = (0,) * len(fold.tree())
            for walker in [Walker(fold), Walker(fold).twin()]:
                self.assertIsNone(walker.row())
                self.assertEqual(number_of(self, NoPlace, walker.step, 0), 0)
                self.assertEqual(number_of(self, NoPlace, walker.back, 0), 0)
                self.assertEqual(number_of(self, NoPlace, walker.step), 1)
                self.assertEqual(number_of(self, NoPlace, walker.back, 3), -3)
                self.assertEqual(number_of(self, NoPlace, walker.to, bound), 0)
                self.assertEqual(number_of(self, NoRow, walker.to, bound + (1,)), 0)
                self.assertEqual((walker.row(), walker.where()), (None, 0))

    def test_the_row_of_no_columns(self):
        walker = Walker(UNIT)
        self.assertEqual((walker.row(), walker.where()), ((), 0))
        self.assertEqual((walker.step(0), walker.back(0), walker.to(())), ((), (), ()))
        self.assertEqual(number_of(self, NoPlace, walker.step), 1)
        self.assertEqual(number_of(self, NoPlace, walker.back), -1)
        self.assertEqual((walker.row(), walker.where()), ((), 0))

    def test_one_row(self):
        walker = Walker(single(ONE, (-BIG,)))
        self.assertEqual(walker.to((-BIG,)), (-BIG,))
        self.assertEqual(number_of(self, NoPlace, walker.to, (1 - BIG,)), 1)
        self.assertEqual((walker.row(), walker.where()), ((-BIG,), 0))

    def test_through_all_rows(self):
        for _, fold, rows in some_folds(81, 80):
            walker = Walker(fold)
            if rows:
                self.assertEqual([walker.row()] + [walker.step() for _ in rows[1:]], rows)
                self.assertEqual(number_of(self, NoPlace, walker.step), len(rows))
                self.assertEqual([walker.row()] + [walker.back() for _ in rows[1:]], rows[::-1])
                self.assertEqual(number_of(self, NoPlace, walker.back), -1)

    def test_by_chance(self):
        for chance, fold, rows in some_folds(82, 120):
            walkers = [(Walker(fold), 0)] if rows else []
            for _ in range(40 if rows else 0):
                at = chance.randrange(len(walkers))
                walker, number = walkers[at]
                deed = chance.randrange(4)
                if deed == 0:
                    number += self.gone(walker.step, chance.randrange(len(rows) + 1), number, rows, 1)
                elif deed == 1:
                    number += self.gone(walker.back, chance.randrange(len(rows) + 1), number, rows, -1)
                elif deed == 2:
                    number = self.gone_to(walker, chance, number, rows)
                else:
                    walkers.append((walker.twin(), number))
                walkers[at] = (walker, number)
                for told, place in walkers:
                    self.stands_at(told, rows, place)

    def gone(self, move, many, number, rows, sign):
        """Move so many rows, and tell how far it went."""
        behind = number + sign * many
        if not 0 <= behind < len(rows):
            self.assertEqual(number_of(self, NoPlace, move, many), behind)
            return 0
        self.assertEqual(move(many), rows[behind])
        return sign * many

    def gone_to(self, walker, chance, number, rows):
        bound = tuple(value + chance.choice([-1, 0, 0, 1]) for value in chance.choice(rows))
        found = first_at_least(rows, bound)
        if found is None:
            self.assertEqual(number_of(self, NoPlace, walker.to, bound), len(rows))
            return number
        self.assertEqual(walker.to(bound), rows[found])
        return found

    def test_twins_go_on_by_themselves(self):
        walker = Walker(hand())
        walker.step(2)
        twin = walker.twin()
        self.assertIs(type(twin), Walker)
        self.stands_at(twin, HAND_ROWS, 2)
        walker.step()
        self.stands_at(twin, HAND_ROWS, 2)
        twin.back(2)
        self.stands_at(walker, HAND_ROWS, 3)
        self.stands_at(twin, HAND_ROWS, 0)
        self.stands_at(twin.twin(), HAND_ROWS, 0)

    def test_no_whole_number_from_nought_on(self):
        for fold in NO_ROWS + [UNIT, hand()]:
            walker = Walker(fold)
            for thing in NO_WHOLES + [-1, -2, -BIG]:
                self.assertIs(number_of(self, NoPlace, walker.step, thing), thing)
                self.assertIs(number_of(self, NoPlace, walker.back, thing), thing)
            self.assertEqual(walker.where(), 0)

    def test_no_bound(self):
        walker = Walker(hand())
        walker.step(2)
        for thing in NO_BOUNDS:
            self.assertEqual(number_of(self, NoRow, walker.to, thing), 0)
        self.assertEqual(number_of(self, NoPlace, walker.to, (4, 9, 7)), 6)
        self.stands_at(walker, HAND_ROWS, 2)
        for thing in [None, 0, [], (0,), ANYTHING, BRITTLE]:
            self.assertEqual(number_of(self, NoRow, Walker(UNIT).to, thing), 0)

    def test_the_fold_stays_as_it_is(self):
        fold = fold_of(hand().tree(), hand().bunches(), hand().tops())
        walker = Walker(fold)
        walker.step(5)
        walker.back(1)
        self.assertEqual((fold, unfolded(fold)), (hand(), HAND_ROWS))
        fold.bunches().clear()
        self.stands_at(walker, HAND_ROWS, 4)

    def test_of_forty_figures(self):
        chance = random.Random(83)
        values = sorted(chance.randrange(-BIG, BIG) for _ in range(50))
        fold = fold_of(ONE, [("a", [(value, ()) for value in values])], (0,))
        walker = Walker(fold)
        for number, value in enumerate(values):
            self.assertEqual(walker.to((value,)), (value,))
            self.assertEqual(walker.where(), number)


if __name__ == "__main__":
    unittest.main()
