"""Point 2: after."""

import unittest

from nightslates.errors import BadLot
from nightslates.houses import after
from tests import plain


class After(unittest.TestCase):
    def test_all_small_houses(self):
        for many in (1, 2):
            for house in plain.houses(many):
                self.check(house)

    def test_some_houses_of_three(self):
        for house in plain.houses(3)[::5]:
            self.check(house)

    def check(self, house):
        for covered in plain.lots(len(house)):
            for coins in plain.lots(len(house)):
                self.assertEqual(after(house, covered, coins), tuple(sorted(plain.step(house, covered, coins))))

    def test_covered_or_coins(self):
        house = ((0, 1), (1, 2), (0, 2))
        self.assertEqual(after(house, (0,), (1,)), (0,))
        self.assertEqual(after(house, (0, 1), ()), (0,))
        self.assertEqual(after(house, (), (1, 2)), (1,))
        self.assertEqual(after(house, (0, 1), (1, 2)), (0, 1, 2))
        self.assertEqual(after(house, (), ()), ())

    def test_clerk_who_does_not_look_at_the_own_slate(self):
        house = ((1,), (0,))
        self.assertEqual(after(house, (), (0,)), (1,))
        self.assertEqual(after(house, (1,), ()), (0,))

    def test_seven_clerks(self):
        each, every = tuple((clerk,) for clerk in range(7)), (tuple(range(7)),) * 7
        self.assertEqual(after(each, (0, 3), (3, 6)), (0, 3, 6))
        self.assertEqual(after(every, (0, 1, 2), (3, 4, 5)), ())
        self.assertEqual(after(every, (0, 1, 2), (3, 4, 5, 6)), tuple(range(7)))

    def test_which_lot_is_wrong(self):
        for covered, coins in (((2,), ()), ((), (2,)), ((1, 0), ()), ((), (1, 1)), ((), (0, True)), ([], ()), ((), [])):
            with self.assertRaises(BadLot):
                after(((0,), (0, 1)), covered, coins)
