"""Point 43: allowances of coins, and enemies by the day."""

import random
import unittest
from itertools import product

from nightslates.coins import bears, cover_row, days_to, shows_cover_row
from nightslates.errors import BadHouse, BadLot, BadNumber, SlateError
from nightslates.schedules import bears_by, days_by, least_rest, row_by, shows_row_by
from tests import plain
from tests.test_coins import EACH, EVERY, FANO, MIXED, RING

ALL = tuple(range(7))
ALONE, THREE = ((0,), (1,)), ((0, 1, 2),) * 3
SMALL = plain.houses(1) + plain.houses(2) + plain.houses(3)[::7]
SEVENS = (EACH, EVERY, FANO, MIXED, RING)
SHORT = [allowance for days in (1, 2) for allowance in product(range(4), repeat=days)]
WRONG = (None, True, False, 0, 1, "", "1", [], [1], {}, {1: 0}, (), (1,) * 7, (0,) * 200, (8,), (-1,), (1, 8),
         (10 ** 30,), (True,), (1, False), (None,), (1, None), ("1",), ((1,),), ((1, 0),), ([1],), ({},), (1, ()))


def everyone(house):
    return tuple(range(len(house)))


def some_allowances(many, seed):
    dice = random.Random(seed)
    return [tuple(dice.choice((0, 0, 1, 1, 2, 3, 7)) for _ in range(dice.randint(3, 6))) for _ in range(many)]


def is_row(house, allowance, goal, row):
    """Whether some lots cover a goal by an allowance, by the words of points 3 and 43."""
    return (all(len(lot) <= allowance[day % len(allowance)] for day, lot in enumerate(row))
            and plain.row_covers(house, row, goal))


class Days(unittest.TestCase):
    def check(self, house, allowance, goal):
        days, row = days_by(house, allowance, goal), row_by(house, allowance, goal)
        self.assertEqual(days, plain.days_by(house, allowance, goal), (house, allowance, goal))
        self.assertIs(shows_row_by(house, allowance, goal, row), True)
        self.assertIs(shows_row_by(house, allowance, goal, None), days is None)
        if days is None:
            self.assertIsNone(row)
        else:
            self.assertEqual([type(row), len(row)], [tuple, days])
            self.assertTrue(all(lot in plain.lots(len(house)) for lot in row))
            self.assertTrue(is_row(house, allowance, goal, row), (house, allowance, goal, row))

    def test_small_houses(self):
        for house in SMALL:
            for allowance in SHORT + some_allowances(6, 41):
                for goal in plain.lots(len(house))[1:]:
                    self.check(house, allowance, goal)

    def test_all_rows(self):
        for house in plain.houses(1) + plain.houses(2):
            for allowance in ((1,), (0, 1), (1, 0), (2, 0), (0, 0, 1), (1, 0, 0), (0, 1, 2), (0, 2, 0, 1)):
                for goal in plain.lots(len(house))[1:]:
                    days = [length for length in range(5) for row in product(plain.lots(len(house)), repeat=length)
                            if is_row(house, allowance, goal, row)]
                    found = days_by(house, allowance, goal)
                    self.assertEqual(found if found is not None and found < 5 else None, min(days, default=None))

    def test_seven_clerks(self):
        for house in SEVENS:
            for allowance in ((7,), (0, 7), (3, 4), (2, 1, 0), (0, 0, 0, 0, 0, 7), (1, 0, 2, 0, 3, 0), (4, 0, 0, 0)):
                for goal in ((0,), (3, 6), ALL):
                    self.check(house, allowance, goal)

    def test_as_many_coins_each_day(self):
        for house in SMALL + list(SEVENS):
            for coins in range(8):
                for goal in (everyone(house), (0,)):
                    self.assertEqual(days_by(house, (coins,), goal), days_to(house, coins, goal))
                    self.assertEqual(days_by(house, (coins,) * 6, goal), days_to(house, coins, goal))
                    row = cover_row(house, coins, goal)
                    self.assertIs(shows_row_by(house, (coins,), goal, row), True)
                    self.assertIs(shows_cover_row(house, coins, goal, row_by(house, (coins,), goal)), True)

    def test_an_allowance_goes_round(self):
        for house in SMALL + list(SEVENS):
            for allowance in ((0, 1), (2, 0, 1), (1, 1, 0)):
                goal = everyone(house)
                self.assertEqual(days_by(house, allowance, goal), days_by(house, allowance * 2, goal))
        # Seven slates, one each sixth day, the first of them on the last day of the first round.
        self.assertEqual(days_by(EACH, (0, 0, 0, 0, 0, 1), ALL), 42)
        self.assertEqual(days_by(EACH, (1, 0, 0, 0, 0, 0), ALL), 37)
        self.assertEqual([days_by(EACH, allowance, ALL) for allowance in ((4, 0, 3), (3, 0, 4), (3, 0, 3))], [3, 3, 4])

    def test_where_it_begins_tells(self):
        self.assertEqual([days_by(ALONE, (0, 1), (0,)), days_by(ALONE, (1, 0), (0,))], [2, 1])
        self.assertEqual([days_by(THREE, allowance, (1,)) for allowance in ((0, 0, 3), (0, 3, 0), (3, 0, 0))],
                         [3, 2, 1])

    def test_zeros_alone(self):
        for house in SMALL + list(SEVENS):
            for days in (1, 2, 6):
                self.assertIsNone(days_by(house, (0,) * days, (0,)))
                self.assertIsNone(row_by(house, (0,) * days, everyone(house)))

    def test_zero_and_seven(self):
        for house in SMALL + list(SEVENS):
            for days in (1, 2, 6):
                self.assertEqual(days_by(house, (0,) * (days - 1) + (7,), everyone(house)), days)

    def test_wrong_allowances(self):
        for allowance in WRONG:
            for function, rest in ((days_by, ()), (row_by, ()), (shows_row_by, (None,)), (shows_row_by, ((),))):
                for goal in ((0,), (), None):
                    with self.assertRaises(BadNumber, msg=allowance):
                        function(ALONE, allowance, goal, *rest)

    def test_wrong_arguments(self):
        for function, rest in ((days_by, ()), (row_by, ()), (shows_row_by, (None,)), (shows_row_by, (7,))):
            for arguments, error, fields in (
                    ((None, None, None), BadHouse, {"clerk": None}), ((((0,), ()), (), ()), BadHouse, {"clerk": 1}),
                    ((ALONE, (1,), ()), BadLot, {}), ((ALONE, (1,), (2,)), BadLot, {}),
                    ((ALONE, (1,), (True,)), BadLot, {}), ((ALONE, (8,), ()), BadNumber, {}),
                    ((ALONE, (0,), None), BadLot, {})):
                with self.assertRaises(SlateError) as caught:
                    function(*arguments, *rest)
                self.assertEqual([type(caught.exception), vars(caught.exception)], [error, fields], arguments)


class ShowsRow(unittest.TestCase):
    def test_all_rows_of_small_houses(self):
        for house in plain.houses(1) + plain.houses(2):
            for allowance in ((1,), (2, 0), (0, 1), (1, 2), (0, 0, 1), (1, 0, 2, 0)):
                for goal in plain.lots(len(house))[1:]:
                    self.check_rows(house, allowance, goal, 3)

    def test_all_rows_of_some_houses_of_three(self):
        for house in plain.houses(3)[::40]:
            for allowance in ((1, 0), (0, 2), (2, 1), (0, 3)):
                for goal in ((1,), (0, 1, 2)):
                    self.check_rows(house, allowance, goal, 2)

    def check_rows(self, house, allowance, goal, most):
        days = plain.days_by(house, allowance, goal)
        for length in range(most + 1):
            for row in product(plain.lots(len(house)), repeat=length):
                wanted = length == days and is_row(house, allowance, goal, row)
                self.assertIs(shows_row_by(house, allowance, goal, row), wanted, (house, allowance, goal, row))

    def test_too_long_and_too_short(self):
        right = ((), (0,), (), (1,))
        self.assertIs(shows_row_by(ALONE, (0, 1), (0, 1), right), True)
        self.assertIs(shows_row_by(ALONE, (0, 1), (0, 1), ((), (1,), (), (0,))), True)
        for value in (right + ((),), right[:3], right[1:], right + right[:2], ((), (0,)), (), ((),) * 4):
            self.assertIs(shows_row_by(ALONE, (0, 1), (0, 1), value), False, value)

    def test_too_many_coins_on_one_day(self):
        self.assertIs(shows_row_by(EACH, (2, 1), (0, 1, 2), ((0, 1), (2,))), True)
        self.assertIs(shows_row_by(EACH, (2, 1), (0, 1, 2), ((0, 2), (1,))), True)
        for value in (((0,), (1, 2)), ((0, 1, 2), ()), ((0, 1, 2), (0,)), ((0, 1), (0, 2)), ((0, 1), (1,))):
            self.assertIs(shows_row_by(EACH, (2, 1), (0, 1, 2), value), False, value)
        self.assertIs(shows_row_by(ALONE, (1, 0), (0, 1), ((0,), (), (1,))), True)
        self.assertIs(shows_row_by(ALONE, (1, 0), (0, 1), ((0,), (1,), ())), False)
        self.assertIs(shows_row_by(ALONE, (1, 0), (0, 1), ((0,), (1,), (1,))), False)

    def test_values_that_only_look_like_rows(self):
        for value in ([(1,), (0,)], ([1], [0]), ((True,), (0,)), ((1,), (False,)), (1, 0), ((1,), (2,)), ((1,), (-1,)),
                      ((1,), (0, 0)), "10", ((1,), None), {(1,): (0,)}, True, (((1,),), ((0,),)), None):
            self.assertIs(shows_row_by(ALONE, (1, 1), (0, 1), value), False, value)

    def test_none(self):
        self.assertIs(shows_row_by(EVERY, (6, 0), (0,), None), True)
        self.assertIs(shows_row_by(EVERY, (6, 0), (0,), ((0,),)), False)
        self.assertIs(shows_row_by(EVERY, (6, 0), (0,), ()), False)
        self.assertIs(shows_row_by(EVERY, (6, 7), (0,), None), False)
        self.assertIs(shows_row_by(EVERY, (6, 7), (0,), (ALL, ALL)), False)
        self.assertIs(shows_row_by(EVERY, (6, 7), (0,), ((), ALL)), True)


class BearsBy(unittest.TestCase):
    def check(self, house, enemy):
        coins = tuple(2 * liars + wipers for liars, wipers in enemy)
        never = plain.days_by(house, coins, everyone(house)) is None
        self.assertIs(bears_by(house, enemy), never, (house, enemy))
        if max(coins) <= 7:
            self.assertIs(days_by(house, coins, everyone(house)) is None, never)

    def test_small_houses(self):
        dice = random.Random(42)
        pairs = [(0, 0), (0, 1), (1, 0), (0, 2), (1, 1), (0, 3)]
        for house in SMALL:
            for enemy in product(pairs, repeat=2):
                self.check(house, enemy)
            for _ in range(4):
                self.check(house, tuple(dice.choices(pairs, k=dice.randint(3, 6))))

    def test_seven_clerks(self):
        for house in SEVENS:
            for enemy in (((7, 7),), ((0, 0), (7, 7)), ((3, 0), (0, 6)), ((3, 0), (3, 1)), ((0, 0),) * 6,
                          ((1, 0), (0, 1)), ((0, 1), (0, 0), (0, 0)), ((2, 0), (0, 0), (0, 1), (0, 0), (1, 1), (0, 3))):
                self.check(house, enemy)

    def test_an_enemy_of_one_night(self):
        for house in SMALL + list(SEVENS):
            for pair in product(range(4), (0, 1, 2, 7)):
                self.assertIs(bears_by(house, (pair,)), bears(house, *pair))
                self.assertIs(bears_by(house, (pair,) * 6), bears(house, *pair))

    def test_whichever_night_is_first(self):
        # What may be done from the beginning may be done later, too, when no fewer slates are covered.
        house, enemy = ((2,), (0, 3), (1,), (0, 2)), ((1, 0), (0, 0), (0, 1))
        for house in SMALL + [house] + list(SEVENS):
            answers = {bears_by(house, enemy[first:] + enemy[:first]) for first in range(3)}
            self.assertEqual(len(answers), 1, house)
            for first in range(3):
                self.check(house, enemy[first:] + enemy[:first])

    def test_by_all_courses(self):
        """What can be told by clerks who write all they see."""
        enemies = (((0, 1), (0, 0)), ((0, 0), (0, 1)), ((0, 2), (0, 0)), ((0, 1), (0, 2)), ((0, 0), (0, 0), (0, 2)))
        for house in plain.houses(1) + plain.houses(2):
            for enemy in enemies:
                self.check_courses(house, enemy, 5)
            for enemy in (((1, 0), (0, 0)), ((0, 0), (1, 0)), ((0, 1), (1, 0))):
                self.check_courses(house, enemy, 3)
        for house in plain.houses(3)[::50]:
            for enemy in enemies:
                self.check_courses(house, enemy, 3)

    def check_courses(self, house, enemy, last):
        coins = tuple(2 * liars + wipers for liars, wipers in enemy)
        for goal in plain.lots(len(house))[1:]:
            days = days_by(house, coins, goal)
            found = plain.first_untold_by(house, enemy, goal, last)
            self.assertEqual(found, days if days is not None and days <= last else None, (house, enemy, goal))
            self.assertFalse(goal == everyone(house) and found is not None and bears_by(house, enemy))

    def test_wrong_enemies(self):
        for enemy in (None, True, 0, "", "01", [], [(0, 1)], {}, {(0, 1): 0}, (), ((0, 1),) * 7, ((0, 0),) * 200,
                      (0, 1), ((0,),), ((),), ((0, 1, 0),), ([0, 1],), ({0: 1},), ("01",), (None,), ((0, 1), None),
                      ((0, 1), ()), ((8, 0),), ((0, 8),), ((-1, 0),), ((0, -1),), ((True, 0),), ((0, False),),
                      ((None, 0),),
                      ((0, "1"),), (((0,), 1),), ((0, 1), (0, 8)), ((0, 10 ** 30),), (((0, 1),),)):
            with self.assertRaises(BadNumber, msg=enemy):
                bears_by(ALONE, enemy)
            with self.assertRaises(BadHouse):
                bears_by((), enemy)


class LeastRest(unittest.TestCase):
    def test_small_houses(self):
        for house in SMALL:
            for coins in range(5):
                self.assertEqual(least_rest(house, coins), plain.least_rest(house, coins), (house, coins))

    def test_seven_clerks(self):
        for house in SEVENS:
            for coins in (0, 1, 4, 7):
                self.assertEqual(least_rest(house, coins), plain.least_rest(house, coins), (house, coins))

    def test_each_rest(self):
        wanted = [(THREE, 2, 0), (EVERY, 6, 0), (ALONE, 0, 0), (((2,), (1, 2), (0, 1)), 2, 3),
                  (((2,), (0,), (0, 1)), 2, 4), (((2,), (0, 3), (1,), (0, 2)), 2, 5),
                  (((2,), (0,), (5,), (4, 5), (1,), (3,)), 1, 5)]
        for house, coins, rest in wanted:
            self.assertEqual([least_rest(house, coins), plain.least_rest(house, coins)], [rest] * 2)
            for days in range(rest):
                self.assertIsNotNone(days_by(house, (coins,) + (0,) * days, everyone(house)))
            self.assertIsNone(days_by(house, (coins,) + (0,) * rest, everyone(house)))

    def test_none(self):
        # All at once, or one behind another, for ever: a day without a coin takes nothing back.
        for house, coins in ((EVERY, 7), (EACH, 1), (EACH, 7), (RING, 1), (ALONE, 2)):
            self.assertIsNone(least_rest(house, coins))
        self.assertEqual([least_rest(((0,),), coins) for coins in (0, 1, 7)], [0, None, None])

    def test_wrong_arguments(self):
        for coins in (-1, 8, True, False, None, "1", (1,), [1], {}):
            with self.assertRaises(BadNumber, msg=coins):
                least_rest(ALONE, coins)
            with self.assertRaises(BadHouse):
                least_rest(((2,),), coins)
