"""Point 44: readers who miss some slates, and the edge."""

import unittest
from itertools import product

from nightslates.coins import bears, lot_bears, number_of, slate_number
from nightslates.errors import BadHouse, BadNumber
from nightslates.readers import edge, missed_number, most_missed
from tests import plain
from tests.test_coins import EACH, EVERY, FANO, MIXED, RING
from tests.test_enemy import OTHERS, enemies

ALONE, THREE = ((0,), (1,)), ((0, 1, 2),) * 3
SMALL = plain.houses(1) + plain.houses(2) + plain.houses(3)[::3]
SEVENS = (EACH, EVERY, FANO, MIXED, OTHERS, RING)


class MissedNumber(unittest.TestCase):
    def test_small_houses_and_seven_clerks(self):
        for house in SMALL + list(SEVENS):
            for missed in range(len(house)):
                self.assertEqual(missed_number(house, missed), plain.missed_number(house, missed), (house, missed))

    def test_by_number_of(self):
        for house in (FANO, MIXED) + tuple(plain.houses(3)[1::20]):
            for missed in range(len(house)):
                some = [lot for lot in plain.lots(len(house)) if len(lot) == len(house) - missed]
                self.assertEqual(missed_number(house, missed), min(number_of(house, lot) for lot in some))

    def test_none_missed(self):
        for house in SMALL + list(SEVENS):
            self.assertEqual(missed_number(house, 0), slate_number(house), house)

    def test_all_missed_but_one(self):
        for house in SMALL + list(SEVENS):
            self.assertEqual(missed_number(house, len(house) - 1),
                             min(number_of(house, (slate,)) for slate in range(len(house))), house)

    def test_who_misses_more_needs_no_more_coins(self):
        self.assertEqual([missed_number(FANO, missed) for missed in range(7)], [4, 4, 4, 4, 4, 4, 3])
        self.assertEqual([missed_number(EVERY, missed) for missed in range(7)], [7] * 7)
        self.assertEqual([missed_number(EACH, missed) for missed in range(7)], [1] * 7)
        self.assertEqual([missed_number(((0,), (0, 1, 2), (0, 1, 2)), missed) for missed in range(3)], [2, 2, 1])

    def test_one_clerk(self):
        self.assertEqual(missed_number(((0,),), 0), 1)

    def test_wrong_arguments(self):
        for house in (((0,),), ALONE, THREE, EACH):
            for missed in (-1, len(house), 8, 10 ** 30, True, False, None, "0", (0,), [0], {}):
                with self.assertRaises(BadNumber, msg=missed):
                    missed_number(house, missed)
        with self.assertRaises(BadHouse):
            missed_number(((0,), ()), 2)


class MostMissed(unittest.TestCase):
    def check(self, house, liars, wipers):
        """most_missed by the plain way, by missed_number, and by all lots that are not missed."""
        found = most_missed(house, liars, wipers)
        self.assertEqual(found, plain.most_missed(house, liars, wipers), (house, liars, wipers))
        self.assertIs(found is None, not bears(house, liars, wipers))
        for missed in range(len(house)):
            borne = found is not None and missed <= found
            self.assertIs(2 * liars + wipers < missed_number(house, missed), borne)
            if len(house) < 4:
                seen = [lot for lot in plain.lots(len(house)) if len(lot) == len(house) - missed]
                self.assertIs(all(lot_bears(house, liars, wipers, lot) for lot in seen), borne)

    def test_small_houses(self):
        for house in SMALL:
            for liars, wipers in enemies(4) + [(7, 7)]:
                self.check(house, liars, wipers)

    def test_seven_clerks(self):
        for house in SEVENS:
            for liars, wipers in product(range(4), range(8)):
                self.check(house, liars, wipers)

    def test_none(self):
        self.assertEqual([most_missed(ALONE, 1, 0), most_missed(ALONE, 0, 1), most_missed(THREE, 7, 7)], [None] * 3)
        self.assertEqual([most_missed(EVERY, *enemy) for enemy in ((3, 0), (3, 1), (7, 7))], [6, None, None])

    def test_0(self):
        # Coins lie on what is missed the next day, so as many slates as there are coins may always be missed.
        for house in SMALL + list(SEVENS):
            for liars, wipers in enemies(4):
                found = most_missed(house, liars, wipers)
                self.assertTrue(found is None or found >= min(2 * liars + wipers, len(house) - 1))
                self.assertIs(found == 0, len(house) == 1 and (liars, wipers) == (0, 0))

    def test_between(self):
        house = ((0, 1, 2), (1,), (0, 1, 2))
        self.assertEqual([missed_number(house, missed) for missed in range(3)], [2, 2, 1])
        self.assertEqual([most_missed(house, 0, wipers) for wipers in range(3)], [2, 1, None])
        self.assertEqual([most_missed(FANO, liars, wipers) for liars, wipers in ((0, 0), (1, 0), (1, 1), (2, 0))],
                         [6, 6, 5, None])

    def test_an_enemy_who_writes_nothing(self):
        for house in SMALL + list(SEVENS):
            self.assertEqual(most_missed(house, 0, 0), len(house) - 1)

    def test_by_all_courses(self):
        """What can be told from any lot of so many slates by clerks who write all they see."""
        for house in plain.houses(2) + plain.houses(3)[::40]:
            for liars, wipers, last in ((0, 1, 3), (0, 2, 3), (1, 0, 2)):
                found = most_missed(house, liars, wipers)
                for lot in plain.lots(len(house))[1:]:
                    if found is not None and len(house) - len(lot) <= found:
                        self.assertIsNone(plain.first_untold(house, liars, wipers, lot, last))

    def test_wrong_arguments(self):
        for number in (-1, 8, True, False, None, "1", (1,), [1]):
            for arguments in ((number, 0), (0, number), (number, number)):
                with self.assertRaises(BadNumber):
                    most_missed(THREE, *arguments)
                with self.assertRaises(BadHouse):
                    most_missed([], *arguments)


class Edge(unittest.TestCase):
    def check(self, house):
        found = edge(house)
        self.assertEqual(found, plain.edge(house), house)
        self.assertEqual([bears(house, liars, 0) for liars in range(8)], [liars < len(found) for liars in range(8)])
        for liars, most in enumerate(found):
            for wipers in range(8):
                self.assertIs(bears(house, liars, wipers), wipers <= most, (house, liars, wipers))

    def test_small_houses(self):
        for house in SMALL:
            self.check(house)

    def test_seven_clerks(self):
        for house in SEVENS:
            self.check(house)
        self.assertEqual([edge(EVERY), edge(OTHERS[:1] * 7), edge(FANO)], [(6, 4, 2, 0), (5, 3, 1), (3, 1)])

    def test_one_number_alone(self):
        self.assertEqual([edge(((0,),)), edge(EACH), edge(((0, 1),) * 2)], [(0,), (0,), (1,)])

    def test_each_slate_number(self):
        self.assertEqual([edge((tuple(range(many)),) * many) for many in range(1, 8)],
                         [(0,), (1,), (2, 0), (3, 1), (4, 2, 0), (5, 3, 1), (6, 4, 2, 0)])

    def test_wrong_houses(self):
        for house in ((), None, ((),), ((1,),), [(0,)], ((0,),) * 8):
            with self.assertRaises(BadHouse):
                edge(house)
