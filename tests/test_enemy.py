"""Point 5: what can be told by rules with as many signs each day as are wanted."""

import unittest
from itertools import combinations, product

from nightslates.coins import best_lots, bears, days_borne, days_to, lot_bears, number_of, slate_number
from nightslates.errors import BadLot, BadNumber
from tests import plain

EACH = tuple((clerk,) for clerk in range(7))
EVERY = (tuple(range(7)),) * 7
OTHERS = tuple(tuple(other for other in range(7) if other != clerk) for clerk in range(7))
FANO = tuple(tuple(sorted((clerk + step) % 7 for step in (0, 1, 3))) for clerk in range(7))
ALL = tuple(range(7))


def enemies(most):
    return [(liars, wipers) for liars in range(8) for wipers in range(8) if 2 * liars + wipers <= most]


class AgainstCoins(unittest.TestCase):
    """What the document sets in italics, by the plain way of coins."""

    def test_small_houses(self):
        for house in plain.houses(1) + plain.houses(2) + plain.houses(3)[::4]:
            goals = plain.lots(len(house))[1:]
            numbers = {goal: plain.number_of(house, goal) for goal in goals}
            for liars, wipers in enemies(4) + [(7, 0), (0, 7), (7, 7)]:
                coins = 2 * liars + wipers
                self.assertIs(bears(house, liars, wipers), coins < numbers[tuple(range(len(house)))])
                for goal in goals:
                    self.assertIs(lot_bears(house, liars, wipers, goal), coins < numbers[goal])
                days = plain.days_to(house, coins, range(len(house)))
                self.assertEqual(days_borne(house, liars, wipers), None if days is None else days - 1)

    def test_each_enemy_of_seven_clerks(self):
        for house, number in ((EACH, 1), (EVERY, 7), (OTHERS, plain.number_of(OTHERS, ALL))):
            self.assertEqual(slate_number(house), number)
            for liars, wipers in product(range(8), repeat=2):
                coins = 2 * liars + wipers
                self.assertIs(bears(house, liars, wipers), coins < number)
                self.assertIs(lot_bears(house, liars, wipers, (2, 5)), coins < number_of(house, (2, 5)))
                days = days_to(house, min(coins, 7), ALL)
                self.assertEqual(days_borne(house, liars, wipers), None if days is None else days - 1)

    def test_an_enemy_who_writes_nothing(self):
        for house in (EACH, EVERY, OTHERS, ((0,),)):
            self.assertIs(bears(house, 0, 0), True)
            self.assertIs(lot_bears(house, 0, 0, (0,)), True)
            self.assertIsNone(days_borne(house, 0, 0))

    def test_a_liar_counts_for_two(self):
        self.assertEqual([bears(EVERY, 3, wipers) for wipers in range(3)], [True, False, False])
        self.assertEqual([bears(EVERY, 0, wipers) for wipers in range(8)], [True] * 7 + [False])
        self.assertEqual([days_borne(EACH, liars, wipers) for liars, wipers in ((0, 1), (1, 0), (1, 1), (3, 0), (3, 1))],
                         [6, 3, 2, 1, 0])

    def test_wrong_numbers(self):
        for number in (-1, 8, True, False, None, "1", (1,), [1]):
            for arguments in ((number, 0), (0, number)):
                with self.assertRaises(BadNumber):
                    bears(EACH, *arguments)
                with self.assertRaises(BadNumber):
                    days_borne(EACH, *arguments)
                with self.assertRaises(BadNumber):
                    lot_bears(EACH, *arguments, ())

    def test_wrong_goals(self):
        for goal in ((), (7,), (1, 0), (False,), [0], None):
            with self.assertRaises(BadLot):
                lot_bears(EACH, 0, 0, goal)


class AgainstCourses(unittest.TestCase):
    """The same by all courses that there are if clerks write all they see."""

    def check(self, house, liars, wipers, last):
        coins = 2 * liars + wipers
        for goal in plain.lots(len(house))[1:]:
            found = plain.first_untold(house, liars, wipers, goal, last)
            days = days_to(house, coins, goal)
            self.assertEqual(found, days if days is not None and days <= last else None, (house, liars, wipers, goal))
            self.assertTrue(found is None or not lot_bears(house, liars, wipers, goal))
        everyone = tuple(range(len(house)))
        found = plain.first_untold(house, liars, wipers, everyone, last)
        borne = days_borne(house, liars, wipers)
        self.assertEqual(found, borne + 1 if borne is not None and borne < last else None)
        self.assertTrue(found is None or not bears(house, liars, wipers))

    def test_one_clerk(self):
        for liars, wipers in enemies(3):
            self.check(((0,),), liars, wipers, 3)

    def test_two_clerks(self):
        for house in plain.houses(2):
            for wipers in (0, 1, 2):
                self.check(house, 0, wipers, 4)
            self.check(house, 1, 0, 2)
            self.check(house, 1, 1, 1)

    def test_some_houses_of_three(self):
        for house in plain.houses(3)[::38]:
            for wipers in (0, 1, 2):
                self.check(house, 0, wipers, 3)
            self.check(house, 1, 0, 2)

    def test_three_who_look_at_all(self):
        self.check(((0, 1, 2),) * 3, 1, 0, 2)
        self.check(((0, 1, 2),) * 3, 0, 2, 3)
        self.check(((0, 1, 2),) * 3, 1, 1, 1)
        self.check(((0, 1, 2),) * 3, 0, 3, 1)


class BestLots(unittest.TestCase):
    def wanted(self, house):
        number = plain.number_of(house, range(len(house)))
        for size in range(1, len(house) + 1):
            found = [lot for lot in combinations(range(len(house)), size) if plain.number_of(house, lot) == number]
            if found:
                return tuple(found)

    def test_small_houses(self):
        for house in plain.houses(1) + plain.houses(2) + plain.houses(3)[::3]:
            self.assertEqual(best_lots(house), self.wanted(house), house)

    def test_seven_clerks(self):
        self.assertEqual(best_lots(EVERY), tuple((clerk,) for clerk in range(7)))
        self.assertEqual(best_lots(EACH), tuple((clerk,) for clerk in range(7)))
        self.assertEqual(best_lots(((0,),) + ((1, 2, 3, 4, 5, 6),) * 6), tuple((clerk,) for clerk in range(1, 7)))

    def test_more_slates_than_one(self):
        self.assertEqual([number_of(FANO, (clerk,)) for clerk in range(7)], [3] * 7)
        self.assertEqual(best_lots(FANO), self.wanted(FANO))
        self.assertEqual({len(lot) for lot in best_lots(FANO)}, {2})
