"""Points 8 and 9: crews, houses beside each other, and sights."""

import unittest
from itertools import product

from nightslates.coins import slate_number
from nightslates.crews import beside, best_sight, crew, crew_number, spare_sights, with_sight
from nightslates.errors import BadHouse, BadNumber, TooMany
from tests import plain
from tests.test_coins import EACH, EVERY, FANO, MIXED, RING

OTHERS = tuple(tuple(other for other in range(7) if other != clerk) for clerk in range(7))
SEVENS = (EACH, EVERY, FANO, MIXED, OTHERS, RING)
ALL = tuple(range(7))
SMALL = plain.houses(1) + plain.houses(2) + plain.houses(3)[::3]


def pairs(house):
    return list(product(range(len(house)), repeat=2))


class Crews(unittest.TestCase):
    def test_small_houses_and_seven_clerks(self):
        for house in SMALL + plain.houses(3)[1::5] + list(SEVENS):
            crews = [plain.crew(house, least) for least in range(1, 8)]
            self.assertEqual([crew(house, least) for least in range(1, 8)], crews, house)
            self.assertEqual(crew_number(house), max(k + 1 for k in range(7) if crews[k]), house)

    def test_slate_number_is_no_less(self):
        for house in SMALL + list(SEVENS):
            self.assertGreaterEqual(slate_number(house), crew_number(house), house)
        self.assertEqual([slate_number(FANO), crew_number(FANO)], [4, 3])

    def test_least_1_and_least_7(self):
        for house in SMALL + list(SEVENS):
            self.assertEqual(crew(house, 1), tuple(range(len(house))))
            self.assertEqual(crew(house, 7), ALL if house == EVERY else ())

    def test_the_empty_lot(self):
        self.assertEqual([crew(((0,),), least) for least in (1, 2, 7)], [(0,), (), ()])
        self.assertEqual([crew(EACH, least) for least in (1, 2, 7)], [ALL, (), ()])
        self.assertEqual([crew(OTHERS, least) for least in (5, 6, 7)], [ALL, ALL, ()])

    def test_clerks_fall_out_one_behind_another(self):
        chain = ((0, 1), (1, 2), (2, 3), (3, 4), (4, 5), (5, 6), (6,))
        self.assertEqual(crew(chain, 2), ())
        self.assertEqual(crew(chain[:6] + ((5, 6),), 2), ALL)
        self.assertEqual(crew(((0, 3), (0, 1, 2), (0, 1, 2), (1, 2), (4,)), 2), (0, 1, 2, 3))
        self.assertEqual(crew(((0, 4), (0, 1, 2), (0, 1, 2), (1, 2), (4,)), 2), (1, 2, 3))

    def test_who_is_looked_at_need_not_look(self):
        self.assertEqual(crew(((0, 1, 2), (0, 1, 2), (2,)), 3), ())
        self.assertEqual(crew(((0, 1, 2), (0, 1, 2), (2,)), 2), (0, 1))

    def test_wrong_numbers(self):
        for least in (0, 8, -1, True, False, None, "1", (1,), [1], {}):
            with self.assertRaises(BadNumber):
                crew(EVERY, least)


class Beside(unittest.TestCase):
    def check(self, one, other):
        both = beside(one, other)
        self.assertEqual(both[:len(one)], one)
        self.assertEqual(both[len(one):], tuple(tuple(slate + len(one) for slate in row) for row in other))
        self.assertEqual(slate_number(both), max(slate_number(one), slate_number(other)), both)

    def test_small_houses(self):
        for one, other in product(plain.houses(1) + plain.houses(2), repeat=2):
            self.check(one, other)
        for one, other in product(plain.houses(2), plain.houses(3)[::10]):
            self.check(one, other)
            self.check(other, one)

    def test_plain_slate_number(self):
        for one, other in product(plain.houses(1) + plain.houses(2), plain.houses(2)):
            many = len(one) + len(other)
            wanted = max(plain.number_of(one, range(len(one))), plain.number_of(other, range(len(other))))
            self.assertEqual(plain.number_of(beside(one, other), range(many)), wanted)

    def test_seven_clerks_together(self):
        for many in range(1, 7):
            for one in (EACH[:many], (tuple(range(many)),) * many, ((many - 1,),) * many):
                for other in (EACH[:7 - many], (tuple(range(7 - many)),) * (7 - many)):
                    self.check(one, other)
        self.assertEqual(beside(((0, 1, 2),) * 3, ((0, 3), (1,), (2,), (0, 1, 2, 3))),
                         ((0, 1, 2),) * 3 + ((3, 6), (4,), (5,), (3, 4, 5, 6)))

    def test_more_than_seven_clerks(self):
        for one, other in product([EACH[:many] for many in range(1, 8)], repeat=2):
            if len(one) + len(other) > 7:
                with self.assertRaises(TooMany) as caught:
                    beside(one, other)
                self.assertEqual(vars(caught.exception), {"most": 7})

    def test_which_house_is_wrong(self):
        for one, other, clerk in ((((0,), ()), ((1,),), 1), (EACH, ((0,), (1,), (3,)), 2), (EACH, (), None),
                                  (EACH, None, None), (EACH + ((7,),), ((),), None), (((1,),), (), 0),
                                  (EACH, EACH[:6] + (6,), 6), (EACH, ((True,),), 0)):
            with self.assertRaises(BadHouse, msg=(one, other)) as caught:
                beside(one, other)
            self.assertEqual(caught.exception.clerk, clerk)


class WithSight(unittest.TestCase):
    def test_all_sights(self):
        for house in SMALL + list(SEVENS):
            for clerk, slate in pairs(house):
                if slate in house[clerk]:
                    with self.assertRaises(BadNumber):
                        with_sight(house, clerk, slate)
                else:
                    more = with_sight(house, clerk, slate)
                    self.assertEqual(more, plain.change_sight(house, clerk, slate))
                    self.assertGreaterEqual(slate_number(more), slate_number(house))

    def test_rows_ascend(self):
        self.assertEqual(with_sight(((1,), (0, 2), (0,)), 1, 1), ((1,), (0, 1, 2), (0,)))
        self.assertEqual(with_sight(((1,), (0, 2), (0,)), 0, 0), ((0, 1), (0, 2), (0,)))
        self.assertEqual(with_sight(((1,), (0, 2), (0,)), 2, 2), ((1,), (0, 2), (0, 2)))

    def test_wrong_clerks_and_slates(self):
        for wrong in (-1, 2, 7, True, False, None, "0", (0,), [0], {}):
            for clerk, slate in ((wrong, 1), (0, wrong), (wrong, wrong), (wrong, 0)):
                with self.assertRaises(BadNumber):
                    with_sight(((0,), (1,)), clerk, slate)
        for clerk in range(7):
            with self.assertRaises(BadNumber):
                with_sight(EVERY, clerk, 6 - clerk)
        with self.assertRaises(BadNumber):
            with_sight(((0,),), 0, 0)


class BestSight(unittest.TestCase):
    def test_small_houses(self):
        for house in SMALL:
            self.assertEqual(best_sight(house), plain.best_sight(house), house)

    def test_seven_clerks(self):
        for house in (EVERY, FANO, OTHERS):
            self.assertEqual(best_sight(house), plain.best_sight(house), house)
        self.assertEqual([best_sight(EACH), best_sight(RING)], [(0, 1, 1), (0, 0, 1)])

    def test_all_look_at_all(self):
        for many in range(1, 8):
            self.assertIsNone(best_sight((tuple(range(many)),) * many))

    def test_a_sight_that_is_lacking_alone(self):
        self.assertEqual(best_sight(EVERY[:5] + ((0, 1, 2, 3, 5, 6), ALL)), (5, 4, 7))
        self.assertEqual(best_sight(((0,), (0, 1))), (0, 1, 2))

    def test_the_least_pair(self):
        self.assertEqual(best_sight(((1,), (0,))), (0, 0, 1))
        self.assertEqual(best_sight(((1,), (1,), (2,))), (0, 0, 1))
        self.assertEqual(best_sight(((0, 1), (1,), (2,))), (1, 0, 2))
        self.assertEqual(best_sight(((0, 1), (0, 1), (0, 1))), (0, 2, 2))
        self.assertEqual(best_sight(((0, 1, 2), (0, 1, 2), (0, 1))), (2, 2, 3))


class SpareSights(unittest.TestCase):
    def test_small_houses(self):
        for house in SMALL:
            self.assertEqual(spare_sights(house), plain.spare_sights(house), house)

    def test_seven_clerks(self):
        for house in (EACH, OTHERS, RING, MIXED):
            self.assertEqual(spare_sights(house), plain.spare_sights(house), house)
        self.assertEqual(spare_sights(EVERY), ())

    def test_clerks_who_look_at_one_slate_only(self):
        for house in (((0,),), ((1,), (1,)), EACH, RING, ((6,),) * 7):
            self.assertEqual(spare_sights(house), ())
        self.assertEqual(spare_sights(((0, 1), (1,), (2,))), ((0, 0), (0, 1)))

    def test_each_alone(self):
        self.assertEqual(spare_sights(((0, 1), (0, 1), (0, 1))), ((2, 0), (2, 1)))
        self.assertEqual(spare_sights(((0, 1, 2),) * 3), ())
        house = ((0, 1, 2), (0, 1, 2), (0, 1))
        self.assertEqual(spare_sights(house), tuple((clerk, slate) for clerk, row in enumerate(house) for slate in row))

