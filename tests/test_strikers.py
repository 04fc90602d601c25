"""Point 42: coins on some slates alone, and enemies who touch some slates alone."""

import unittest
from itertools import product

from nightslates.coins import bears, lot_bears, number_of, slate_number
from nightslates.errors import BadHouse, BadLot, BadNumber, SlateError
from nightslates.strikers import bound_bears, bound_number, guards
from tests import plain
from tests.test_coins import EACH, EVERY, FANO, MIXED, RING
from tests.test_enemy import OTHERS, enemies

ALL = tuple(range(7))
SMALL = plain.houses(1) + plain.houses(2) + plain.houses(3)[::5]
SEVENS = (EACH, EVERY, FANO, MIXED, OTHERS, RING)


def everyone(house):
    return tuple(range(len(house)))


def others(house, lot):
    return tuple(slate for slate in everyone(house) if slate not in lot)


class Numbers(unittest.TestCase):
    def test_all_rows(self):
        # No row but of lots that lead to other slates each day is wanted, and there are 4 lots of two slates.
        for house in plain.houses(1) + plain.houses(2):
            for lot in plain.lots(len(house)):
                some = [part for part in plain.lots(len(house)) if set(part) <= set(lot)]
                rows = [row for days in range(5) for row in product(some, repeat=days)]
                for goal in plain.lots(len(house))[1:]:
                    wanted = min((max(map(len, row), default=0) for row in rows if plain.row_covers(house, row, goal)),
                                 default=None)
                    self.assertEqual(bound_number(house, goal, lot), wanted, (house, goal, lot))
                    self.assertEqual(plain.bound_number(house, goal, lot), wanted, (house, goal, lot))

    def test_small_houses(self):
        for house in SMALL:
            for goal, lot in product(plain.lots(len(house))[1:], plain.lots(len(house))):
                wanted = plain.bound_number(house, goal, lot)
                self.assertEqual(bound_number(house, goal, lot), wanted, (house, goal, lot))

    def test_seven_clerks(self):
        for house in SEVENS:
            for goal, lot in product(((0,), (2, 5), ALL), ((6,), (0, 3), (1, 2, 4), (0, 2, 3, 5, 6))):
                wanted = plain.bound_number(house, goal, lot)
                self.assertEqual(bound_number(house, goal, lot), wanted, (house, goal, lot))

    def test_the_empty_lot(self):
        for house in SMALL + list(SEVENS):
            for goal in (everyone(house), (0,), (len(house) - 1,)):
                self.assertIsNone(bound_number(house, goal, ()))

    def test_all_slates(self):
        for house in SMALL:
            for goal in plain.lots(len(house))[1:]:
                self.assertEqual(bound_number(house, goal, everyone(house)), number_of(house, goal), (house, goal))
        for house in SEVENS:
            self.assertEqual(bound_number(house, ALL, ALL), slate_number(house))
            self.assertEqual(bound_number(house, (1, 4), ALL), number_of(house, (1, 4)))

    def test_what_no_number_covers(self):
        self.assertIsNone(bound_number(((0,), (1,)), (0, 1), (0,)))
        self.assertEqual(bound_number(((0,), (1,)), (0,), (0,)), 1)
        self.assertIsNone(bound_number(EVERY, (3,), (0, 1, 2, 3, 4, 5)))
        self.assertEqual([bound_number(EVERY, (3,), ALL), bound_number(EACH, (1, 3), (1, 3))], [7, 1])
        self.assertIsNone(bound_number(EACH, (1, 3), (0, 1, 2, 4, 5, 6)))

    def test_fewer_slates_need_no_fewer_coins(self):
        house = ((0, 1), (0, 2), (0, 1))
        self.assertEqual([bound_number(house, (0,), lot) for lot in ((0,), (0, 1), (0, 1, 2))], [None, 2, 2])
        line = ((0,), (0, 2), (2,))
        self.assertEqual([bound_number(line, (1,), lot) for lot in ((), (0,), (0, 2), (1, 2))], [None, None, 1, None])

    def test_coins_off_the_goal(self):
        self.assertEqual([bound_number(RING, (3,), (slate,)) for slate in range(7)], [1] * 7)
        self.assertEqual(bound_number(((1,), (0,)), (0, 1), (0,)), 1)

    def test_wrong_arguments(self):
        for arguments, error, fields in (
                (((), (), ()), BadHouse, {"clerk": None}), ((((0,), ()), (9,), None), BadHouse, {"clerk": 1}),
                ((EACH, (), ()), BadLot, {}), ((EACH, (7,), ()), BadLot, {}), ((EACH, (0,), (7,)), BadLot, {}),
                ((EACH, (0,), (1, 0)), BadLot, {}), ((EACH, (0,), (1, 1)), BadLot, {}),
                ((EACH, (0,), (True,)), BadLot, {}), ((EACH, (False,), ()), BadLot, {}),
                ((EACH, (0,), [0]), BadLot, {}), ((EACH, (0,), None), BadLot, {})):
            with self.assertRaises(SlateError) as caught:
                bound_number(*arguments)
            self.assertEqual([type(caught.exception), vars(caught.exception)], [error, fields], arguments)


class Bears(unittest.TestCase):
    def check(self, house, goal, lot, some):
        number = bound_number(house, goal, lot)
        for liars, wipers in some:
            wanted = number is None or 2 * liars + wipers < number
            self.assertIs(bound_bears(house, liars, wipers, goal, lot), wanted, (house, liars, wipers, goal, lot))
            if lot == everyone(house):
                self.assertIs(lot_bears(house, liars, wipers, goal), wanted)

    def test_small_houses(self):
        for house in SMALL:
            for goal, lot in product(plain.lots(len(house))[1:], plain.lots(len(house))):
                self.check(house, goal, lot, enemies(4) + [(7, 7)])

    def test_each_enemy_of_seven_clerks(self):
        for goal, lot in (((0, 6), (0, 6)), ((0, 6), (0, 5)), (ALL, ALL), ((2,), ()), ((2, 3), (1, 2, 3, 4))):
            for house in (EACH, EVERY, FANO):
                self.check(house, goal, lot, product(range(8), repeat=2))

    def test_all_slates(self):
        for house in SMALL:
            for liars, wipers in enemies(3):
                self.assertIs(bound_bears(house, liars, wipers, everyone(house), everyone(house)),
                              bears(house, liars, wipers))

    def test_by_all_courses(self):
        """What can be told by clerks who write all they see."""
        for house in plain.houses(1) + plain.houses(2):
            for lot in plain.lots(len(house)):
                for liars, wipers, last in ((0, 1, 4), (0, 2, 4), (1, 0, 2), (1, 1, 1)):
                    self.check_courses(house, liars, wipers, lot, last)
        for house in plain.houses(3)[::60]:
            for lot in plain.lots(3):
                for liars, wipers, last in ((0, 1, 3), (0, 2, 3), (1, 0, 2)):
                    self.check_courses(house, liars, wipers, lot, last)

    def check_courses(self, house, liars, wipers, lot, last):
        for goal in plain.lots(len(house))[1:]:
            if bound_bears(house, liars, wipers, goal, lot):
                found = plain.first_untold(house, liars, wipers, goal, last, lot)
                self.assertIsNone(found, (house, liars, wipers, goal, lot))
            elif 2 ** len(house) - 1 <= last:
                # Some row of lots covers the goal before any slates covered come again.
                found = plain.first_untold(house, liars, wipers, goal, last, lot)
                self.assertIsNotNone(found, (house, liars, wipers, goal, lot))

    def test_wrong_arguments(self):
        for arguments, error in (
                (((), 8, 8, (), None), BadHouse), ((EACH, 8, 8, (), None), BadNumber),
                ((EACH, 0, 8, (), None), BadNumber), ((EACH, True, 0, (0,), ()), BadNumber), ((EACH, 0, False, (0,),
                ()), BadNumber),
                ((EACH, -1, 0, (0,), ()), BadNumber), ((EACH, 0, None, (0,), ()), BadNumber),
                ((EACH, 7, 7, (), None), BadLot), ((EACH, 7, 7, (0,), None), BadLot),
                ((EACH, 7, 7, (0,), (7,)), BadLot)):
            with self.assertRaises(error, msg=arguments):
                bound_bears(*arguments)


class Guards(unittest.TestCase):
    def check(self, house, liars, wipers):
        found = guards(house, liars, wipers)
        self.assertEqual(found, plain.guards(house, liars, wipers), (house, liars, wipers))
        self.assertIs(found == ((),), bears(house, liars, wipers), (house, liars, wipers))
        for lot in plain.lots(len(house)):
            borne = bound_bears(house, liars, wipers, everyone(house), others(house, lot))
            self.assertIs(lot in found, borne and len(lot) == len(found[0]), (house, liars, wipers, lot))

    def test_small_houses(self):
        for house in SMALL:
            for liars, wipers in enemies(3) + [(7, 7)]:
                self.check(house, liars, wipers)

    def test_seven_clerks(self):
        for house in SEVENS:
            for liars, wipers in ((0, 0), (0, 1), (1, 0), (1, 1), (3, 0), (0, 7), (7, 7)):
                self.assertEqual(guards(house, liars, wipers), plain.guards(house, liars, wipers))
        self.check(MIXED, 1, 0)

    def test_the_empty_lot_alone(self):
        for house in SMALL + list(SEVENS):
            self.assertEqual(guards(house, 0, 0), ((),))
        self.assertEqual([guards(EVERY, 3, 0), guards(EVERY, 0, 6)], [((),), ((),)])

    def test_all_slates(self):
        self.assertEqual([guards(((0,),), 1, 0), guards(((0,),), 0, 1)], [((0,),)] * 2)
        self.assertEqual([guards(RING, 0, 1), guards(RING, 7, 7)], [(ALL,)] * 2)
        self.assertEqual(guards(((1,), (0,)), 0, 1), ((0, 1),))

    def test_some_slates(self):
        one_each = tuple((clerk,) for clerk in range(7))
        self.assertEqual([guards(EVERY, 4, 0), guards(EVERY, 3, 1), guards(EACH, 0, 1)], [one_each] * 3)
        self.assertEqual(guards(((0,), (0,), (2,)), 1, 0), ((0,), (2,)))
        # Who looks at others in turn is led astray by each of them.
        self.assertEqual(guards(((1,), (0,), (3,), (2,)), 0, 1), ((0, 1), (2, 3)))

    def test_lots_ascend(self):
        for house in SMALL + list(SEVENS):
            found = guards(house, 1, 0)
            self.assertEqual(list(found), sorted(set(found)))
            self.assertEqual([type(found)] + [type(lot) for lot in found], [tuple] * (len(found) + 1))

    def test_wrong_arguments(self):
        for arguments, error in (((None, 8, 8), BadHouse), ((EACH, 8, 8), BadNumber), ((EACH, 0, 8), BadNumber),
                                 ((EACH, True, 0), BadNumber), ((EACH, 0, -1), BadNumber), ((EACH, 0, "1"), BadNumber)):
            with self.assertRaises(error, msg=arguments):
                guards(*arguments)
