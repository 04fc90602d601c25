"""Point 6: mornings and courses by rules."""

import random
import unittest
from itertools import product

from nightslates.errors import BadNight, BadNumber, BadSlates
from nightslates.rules import course, morning
from tests import plain

EACH = tuple((clerk,) for clerk in range(7))
EVERY = (tuple(range(7)),) * 7


def most_table(signs, length):
    """The sign that is seen most often, the least one of these."""
    return tuple(max(range(signs), key=lambda sign: (row.count(sign), -sign)) for row in product(range(signs), repeat=length))


class Mornings(unittest.TestCase):
    def check(self, house, rules):
        for slates in product(range(rules[0]), repeat=len(house)):
            self.assertEqual(morning(house, rules, slates), plain.day(house, rules, slates, ()), (house, rules, slates))

    def test_all_rules_of_small_houses(self):
        for signs in (2, 3):
            for rules in plain.all_rules(((0,),), signs):
                self.check(((0,),), rules)
        for house in plain.houses(2):
            for rules in plain.all_rules(house, 2):
                self.check(house, rules)

    def test_some_rules_of_three_signs(self):
        dice = random.Random(5)
        for house in plain.houses(2) + plain.houses(3)[::20]:
            tables = tuple(tuple(dice.randrange(3) for _ in range(3 ** len(row))) for row in house)
            self.check(house, (3, tables))

    def test_rows_ascend(self):
        house = ((0, 1), (0,))
        self.assertEqual([morning(house, (2, ((0, 0, 1, 0), (0, 1))), slates) for slates in product((0, 1), repeat=2)],
                         [(0, 0), (0, 0), (1, 1), (0, 1)])
        self.assertEqual(morning(((1,), (0, 1)), (3, ((2, 0, 1), (0, 0, 0, 0, 0, 2, 0, 1, 0))), (1, 2)), (1, 2))
        self.assertEqual(morning(((1,), (0, 1)), (3, ((2, 0, 1), (0, 0, 0, 0, 0, 2, 0, 1, 0))), (2, 1)), (0, 1))

    def test_seven_clerks(self):
        most = (2, (most_table(2, 7),) * 7)
        self.assertEqual(morning(EVERY, most, (0, 1, 1, 0, 1, 0, 1)), (1,) * 7)
        three = (3, (most_table(3, 7),) * 7)
        self.assertEqual(morning(EVERY, three, (0, 2, 1, 2, 2, 0, 1)), (2,) * 7)
        self.assertEqual(morning(EACH, (3, ((1, 2, 0),) * 7), (0, 1, 2, 0, 1, 2, 0)), (1, 2, 0, 1, 2, 0, 1))

    def test_wrong_slates(self):
        copies = (2, ((0, 1),) * 7)
        for slates in ((), (0,) * 6, (0,) * 8, (0,) * 6 + (2,), (0,) * 6 + (-1,), (0,) * 6 + (True,), (None,) * 7,
                       [0] * 7, "0000000", 0, None, {}, ((0,),) * 7):
            with self.assertRaises(BadSlates):
                morning(EACH, copies, slates)
        with self.assertRaises(BadSlates):
            morning(EACH, (3, ((0, 1, 2),) * 7), (3,) * 7)
        self.assertEqual(morning(EACH, (3, ((0, 1, 2),) * 7), (2,) * 7), (2,) * 7)


class Courses(unittest.TestCase):
    def test_against_plain_days(self):
        dice = random.Random(6)
        for house in plain.houses(1) + plain.houses(2) + plain.houses(3)[::20]:
            for signs in (2, 3):
                tables = tuple(tuple(dice.randrange(signs) for _ in range(signs ** len(row))) for row in house)
                some = plain.nights(len(house), signs, 3)
                for start in (0, 1):
                    self.check(house, (signs, tables), start, tuple(dice.choice(some) for _ in range(5)))

    def check(self, house, rules, start, nights):
        wanted = [(start,) * len(house)]
        for pairs in nights:
            wanted.append(plain.day(house, rules, wanted[-1], pairs))
        self.assertEqual(course(house, rules, start, nights), tuple(wanted))

    def test_no_nights(self):
        self.assertEqual(course(EACH, (2, ((0, 1),) * 7), 1, ()), ((1,) * 7,))

    def test_many_nights(self):
        turn = (2, ((1, 0),))
        self.assertEqual(course(((0,),), turn, 0, ((),) * 200), ((0,), (1,)) * 100 + ((0,),))
        with self.assertRaises(BadNight):
            course(((0,),), turn, 0, ((),) * 201)

    def test_a_night_on_all_slates(self):
        night = tuple((slate, slate % 3) for slate in range(7))
        self.assertEqual(course(EACH, (3, ((0, 1, 2),) * 7), 1, (night,))[1], (0, 1, 2, 0, 1, 2, 0))

    def test_a_night_that_writes_what_stands_there(self):
        self.assertEqual(course(EACH, (2, ((0, 1),) * 7), 1, (((3, 1),),)), ((1,) * 7,) * 2)

    def test_wrong_starts(self):
        for start in (-1, 2, True, False, None, "0", (0,), [0], {}):
            with self.assertRaises(BadNumber):
                course(EACH, (2, ((0, 1),) * 7), start, ())

    def test_wrong_nights(self):
        copies = (2, ((0, 1),) * 7)
        for night in (None, 0, True, "", [], {}, (0,), (0, 1), ((0,),), ((0, 0, 0),), ([0, 1],), ((7, 0),), ((-1, 0),),
                      ((0, 2),), ((0, -1),), ((True, 0),), ((0, True),), ((0, 0), (0, 1)), ((1, 0), (0, 0)),
                      ((0, None),), (("0", 0),), (None,), ((),), ("01",), ({0: 1},)):
            with self.assertRaises(BadNight, msg=night):
                course(EACH, copies, 0, (night,))
            with self.assertRaises(BadNight, msg=night):
                course(EACH, copies, 0, ((),) * 3 + (night, ()))
        for nights in (None, 0, True, "", [], [()], {}, {(): ()}):
            with self.assertRaises(BadNight, msg=nights):
                course(EACH, copies, 0, nights)
