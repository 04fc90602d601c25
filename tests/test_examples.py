"""The examples of the interface."""

import unittest

from nightslates.coins import (bears, best_lots, closed_family, days_borne, days_to, number_of, shows_closed_family,
                               shows_cover_row, slate_number)
from nightslates.errors import BadHouse, BadLot, BadRules
from nightslates.houses import after
from nightslates.rules import could_be, course, days_told, morning, shows_two_courses, tells, two_courses

THREE, ALONE = ((0, 1, 2),) * 3, ((0,), (1,))
MOST = (2, ((0, 0, 0, 1, 0, 1, 1, 1),) * 3)


class Examples(unittest.TestCase):
    def test_houses(self):
        self.assertEqual([after(THREE, (0,), (1, 2)), after(((0,), (0, 1)), (0,), ())], [(0, 1, 2), (0,)])

    def test_houses_error(self):
        with self.assertRaises(BadHouse) as caught:
            after(((0,), ()), (), ())
        self.assertEqual(vars(caught.exception), {"clerk": 1})

    def test_coins_numbers(self):
        self.assertEqual(
            [slate_number(THREE), slate_number(ALONE), bears(THREE, 1, 0), bears(THREE, 1, 1), days_borne(THREE, 1, 1),
             days_borne(ALONE, 0, 1), best_lots(THREE)],
            [3, 1, True, False, 0, 1, ((0,), (1,), (2,))])

    def test_coins_rows(self):
        self.assertEqual(
            [days_to(ALONE, 1, (0, 1)), days_to(ALONE, 0, (0,)), shows_cover_row(ALONE, 1, (0, 1), ((1,), (0,))),
             shows_closed_family(ALONE, 0, (0,), closed_family(ALONE, 0, (0,))),
             shows_closed_family(THREE, 2, (0,), ((),))],
            [2, None, True, True, True])

    def test_coins_error(self):
        with self.assertRaises(BadLot) as caught:
            number_of(ALONE, ())
        self.assertEqual(vars(caught.exception), {})

    def test_rules(self):
        self.assertEqual(
            [morning(THREE, MOST, (0, 1, 1)), [tells(THREE, MOST, liars) for liars in range(3)],
             days_told(THREE, MOST, 2), two_courses(THREE, MOST, 1)],
            [(1, 1, 1), [True, True, False], 0, None])

    def test_rules_courses(self):
        self.assertEqual(
            [course(THREE, MOST, 0, (((2, 1),), ())), could_be(THREE, MOST, 2, 1, (1, 1, 1)),
             shows_two_courses(THREE, MOST, 2, ((((0, 1), (1, 1)),), ((),)))],
            [((0, 0, 0), (0, 0, 0), (0, 0, 0)), (0, 1), True])

    def test_rules_error(self):
        with self.assertRaises(BadRules) as caught:
            tells(THREE, (2, ((0, 1),) * 3), 1)
        self.assertEqual(vars(caught.exception), {"part": "tables"})
