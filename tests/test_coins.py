"""Points 3 and 4: coins that cover lots, and families that they do not lead out of."""

import unittest
from itertools import chain, combinations, product

from nightslates.coins import (closed_family, cover_row, days_to, number_of, shows_closed_family, shows_cover_row,
                               slate_number)
from nightslates.errors import BadLot, BadNumber
from tests import plain

EACH = tuple((clerk,) for clerk in range(7))
EVERY = (tuple(range(7)),) * 7
RING = tuple(((clerk + 1) % 7,) for clerk in range(7))
FANO = tuple(tuple(sorted((clerk + step) % 7 for step in (0, 1, 3))) for clerk in range(7))
MIXED = ((0,), tuple(range(7)), (0, 1), (2, 4, 6), (3,), (0, 5), (1, 2, 3, 4, 5, 6))
ALL = tuple(range(7))


def small_houses():
    return plain.houses(1) + plain.houses(2) + plain.houses(3)[::3]


def goals(house):
    return plain.lots(len(house))[1:]


class Numbers(unittest.TestCase):
    def test_small_houses(self):
        for house in small_houses():
            self.assertEqual(slate_number(house), plain.number_of(house, range(len(house))), house)
            for goal in goals(house):
                self.assertEqual(number_of(house, goal), plain.number_of(house, goal), (house, goal))

    def test_seven_clerks(self):
        numbers = [slate_number(house) for house in (EACH, EVERY, RING, FANO, MIXED, ((6,),) * 7)]
        self.assertEqual(numbers, [1, 7, 1, plain.number_of(FANO, ALL), plain.number_of(MIXED, ALL), 1])

    def test_goals_of_seven_clerks(self):
        for goal in ((0,), (6,), (2, 3), (0, 1, 2, 3, 4, 5), ALL):
            self.assertEqual(number_of(EVERY, goal), 7)
            self.assertEqual(number_of(EACH, goal), 1)
            self.assertEqual(number_of(MIXED, goal), plain.number_of(MIXED, goal))

    def test_one_clerk(self):
        self.assertEqual([slate_number(((0,),)), number_of(((0,),), (0,))], [1, 1])

    def test_a_goal_is_no_harder_than_all(self):
        house = ((0,), (0, 1, 2), (1, 2))
        self.assertEqual([number_of(house, (0,)), number_of(house, (1,)), slate_number(house)], [1, 2, 2])

    def test_wrong_goals(self):
        for goal in ((), (7,), (1, 0), (0, 0), (True,), [0], 0, None, "0"):
            with self.assertRaises(BadLot):
                number_of(EACH, goal)


class Days(unittest.TestCase):
    def test_small_houses(self):
        for house in small_houses():
            for coins in range(len(house) + 2):
                for goal in goals(house):
                    wanted = plain.days_to(house, coins, goal)
                    self.assertEqual(days_to(house, coins, goal), wanted, (house, coins, goal))
                    self.check_row(house, coins, goal, wanted)

    def test_seven_clerks(self):
        self.assertEqual([days_to(EACH, coins, ALL) for coins in range(8)], [None, 7, 4, 3, 2, 2, 2, 1])
        self.assertEqual([days_to(EVERY, coins, (3,)) for coins in range(8)], [None] * 7 + [1])
        self.assertEqual([days_to(RING, coins, ALL) for coins in range(8)], [None, 7, 4, 3, 2, 2, 2, 1])
        for house in (FANO, MIXED):
            for coins in range(8):
                wanted = plain.days_to(house, coins, ALL)
                self.assertEqual(days_to(house, coins, ALL), wanted)
                self.check_row(house, coins, ALL, wanted)

    def check_row(self, house, coins, goal, days):
        row = cover_row(house, coins, goal)
        self.assertIs(shows_cover_row(house, coins, goal, row), True)
        if days is None:
            self.assertIsNone(row)
        else:
            self.assertIs(type(row), tuple)
            self.assertEqual(len(row), days)
            self.assertTrue(all(lot in plain.lots(len(house)) and len(lot) <= coins for lot in row))
            self.assertTrue(plain.row_covers(house, row, goal))
            self.assertIs(shows_cover_row(house, coins, goal, None), False)

    def test_more_coins_than_slates(self):
        self.assertEqual([days_to(((0,), (1,)), coins, (0, 1)) for coins in (2, 3, 7)], [1, 1, 1])
        self.assertEqual(cover_row(((0,),), 7, (0,)), ((0,),))

    def test_wrong_coins(self):
        for coins in (-1, 8, True, False, None, "1", (1,), [1]):
            for function in (days_to, cover_row, closed_family):
                with self.assertRaises(BadNumber):
                    function(EACH, coins, (0,))


class ShowsRow(unittest.TestCase):
    def test_all_rows_of_small_houses(self):
        for house in plain.houses(1) + plain.houses(2):
            for coins in range(len(house) + 1):
                for goal in goals(house):
                    self.check_rows(house, coins, goal, 3)

    def test_all_rows_of_some_houses_of_three(self):
        for house in plain.houses(3)[::29]:
            for coins in (0, 1, 2):
                for goal in ((1,), (0, 1, 2)):
                    self.check_rows(house, coins, goal, 2)

    def check_rows(self, house, coins, goal, most):
        days = plain.days_to(house, coins, goal)
        for length in range(most + 1):
            for row in product(plain.lots(len(house)), repeat=length):
                wanted = (length == days and all(len(lot) <= coins for lot in row)
                          and plain.row_covers(house, row, goal))
                self.assertIs(shows_cover_row(house, coins, goal, row), wanted, (house, coins, goal, row))

    def test_too_long_and_too_short(self):
        self.assertIs(shows_cover_row(EACH, 4, (0, 1), ((0, 1),)), True)
        self.assertIs(shows_cover_row(EACH, 4, (0, 1), ((0, 1), ())), False)
        self.assertIs(shows_cover_row(EACH, 4, (0, 1), ((), (0, 1))), False)
        self.assertIs(shows_cover_row(EACH, 4, (0, 1), ()), False)
        self.assertIs(shows_cover_row(EACH, 1, (0, 1), ((0, 1),)), False)

    def test_values_that_only_look_like_rows(self):
        for value in ([(1,), (0,)], ([1], [0]), ((True,), (0,)), ((1,), (False,)), (1, 0), ((1,), (2,)), ((1,), (-1,)),
                      ((1,), (0, 0)), "10", ((1,), None), {(1,): (0,)}, True):
            self.assertIs(shows_cover_row(((0,), (1,)), 1, (0, 1), value), False)

    def test_none(self):
        self.assertIs(shows_cover_row(EVERY, 6, (0,), None), True)
        self.assertIs(shows_cover_row(EVERY, 6, (0,), ((0,),)), False)
        self.assertIs(shows_cover_row(EVERY, 7, (0,), None), False)


class Families(unittest.TestCase):
    def test_small_houses(self):
        for house in small_houses():
            for coins in range(len(house) + 1):
                for goal in goals(house):
                    self.check_family(house, coins, goal)

    def test_seven_clerks(self):
        for house in (EACH, EVERY, RING, FANO, MIXED):
            for coins in range(8):
                for goal in ((0,), (3, 6), ALL):
                    self.check_family(house, coins, goal)

    def check_family(self, house, coins, goal):
        family = closed_family(house, coins, goal)
        self.assertIs(shows_closed_family(house, coins, goal, family), True)
        if plain.days_to(house, coins, goal) is not None:
            self.assertIsNone(family)
        else:
            self.assertIs(type(family), tuple)
            self.assertEqual(list(family), sorted(set(family)))
            self.assertTrue(all(lot in plain.lots(len(house)) for lot in family))
            self.assertTrue(plain.is_family(house, coins, goal, family))
            self.assertIs(shows_closed_family(house, coins, goal, None), False)

    def test_all_families_of_small_houses(self):
        for house in plain.houses(1) + plain.houses(2):
            for coins in range(len(house) + 2):
                for goal in goals(house):
                    self.check_families(house, coins, goal)

    def test_all_families_of_some_houses_of_three(self):
        for house in plain.houses(3)[::43]:
            for coins, goal in ((0, (0, 1)), (1, (0, 1, 2)), (2, (1,)), (3, (0,))):
                self.check_families(house, coins, goal)

    def check_families(self, house, coins, goal):
        some = plain.lots(len(house))
        families = chain.from_iterable(combinations(some, size) for size in range(len(some) + 1))
        for family in families:
            wanted = plain.is_family(house, coins, goal, family)
            self.assertIs(shows_closed_family(house, coins, goal, family), wanted, (house, coins, goal, family))

    def test_lots_ascend_one_by_one(self):
        house, right = ((0,), (1,)), ((), (0,))
        self.assertIs(shows_closed_family(house, 0, (0, 1), right), True)
        for value in (right[::-1], right + right[1:], ((),) + right, list(right), ([], [0]), ((), (False,)),
                      ((), (0,), (2,)), ((), (0,), (1, 0)), (), ((), 0), ((), None), ((), (0,), "1"), {(): (0,)}):
            self.assertIs(shows_closed_family(house, 0, (0, 1), value), False, value)

    def test_lots_ascend_as_tuples(self):
        house = ((0,), (1,), (2,))
        self.assertIs(shows_closed_family(house, 0, (0, 1, 2), ((0,), (0, 2), (1,))), True)
        self.assertIs(shows_closed_family(house, 0, (0, 1, 2), ((0,), (1,), (0, 2))), False)

    def test_within_another_lot(self):
        house = ((0,), (1,), (2,))
        self.assertIs(shows_closed_family(house, 0, (2,), ((0, 1),)), True)
        self.assertIs(shows_closed_family(((1,), (1,), (2,)), 1, (2,), ((0, 1),)), False)
        self.assertIs(shows_closed_family(((1,), (1,), (1, 2)), 1, (2,), ((0, 1),)), False)
        self.assertIs(shows_closed_family(((0, 1, 2),) * 3, 2, (2,), ((),)), True)

    def test_none(self):
        self.assertIs(shows_closed_family(EVERY, 7, (0,), None), True)
        self.assertIs(shows_closed_family(EVERY, 6, (0,), None), False)
        self.assertIs(shows_closed_family(EVERY, 7, (0,), ((),)), False)
