"""Point 7: what rules of few signs tell, and two courses that lead to the same slates."""

import random
import unittest
from itertools import product

from nightslates.coins import slate_number
from nightslates.errors import BadNumber, BadSlates, TooMany
from nightslates.rules import could_be, course, days_told, shows_two_courses, tells, two_courses
from tests import plain
from tests.test_rules import EACH, EVERY, most_table

ALONE, THREE = ((0,), (1,)), ((0, 1, 2),) * 3
COPY = (2, ((0, 1), (0, 1)))
MOST = (2, (most_table(2, 3),) * 3)


def some_rules(house, signs, many, seed):
    dice = random.Random(seed)
    return [(signs, tuple(tuple(dice.randrange(signs) for _ in range(signs ** len(row))) for row in house))
            for _ in range(many)]


class Told(unittest.TestCase):
    def check(self, house, rules, liars):
        meeting = plain.meeting(house, rules, liars)
        self.assertIs(tells(house, rules, liars), meeting is None, (house, rules, liars))
        self.assertEqual(days_told(house, rules, liars), None if meeting is None else meeting - 1)
        self.assertTrue(meeting is not None or 2 * liars < slate_number(house))
        found = two_courses(house, rules, liars)
        self.assertIs(shows_two_courses(house, rules, liars, found), True)
        self.assertIs(shows_two_courses(house, rules, liars, None), meeting is None)
        if meeting is None:
            self.assertIsNone(found)
        else:
            self.check_courses(house, rules, liars, found, meeting)

    def check_courses(self, house, rules, liars, found, meeting):
        self.assertEqual([type(found), len(found), len(found[0]), len(found[1])], [tuple, 2, meeting, meeting])
        ends = []
        for number, nights in enumerate(found):
            slates = (number,) * len(house)
            for pairs in nights:
                self.assertIn(pairs, plain.nights(len(house), rules[0], liars))
                slates = plain.day(house, rules, slates, pairs)
            ends.append(slates)
        self.assertEqual(ends[0], ends[1])

    def test_one_clerk(self):
        for signs in (2, 3):
            for rules in plain.all_rules(((0,),), signs):
                for liars in (0, 1, 7):
                    self.check(((0,),), rules, liars)

    def test_two_clerks(self):
        for house in plain.houses(2):
            for rules in plain.all_rules(house, 2):
                for liars in (0, 1, 2):
                    self.check(house, rules, liars)

    def test_two_clerks_and_three_signs(self):
        for house in plain.houses(2):
            for rules in some_rules(house, 3, 8, 1):
                for liars in (0, 1, 2):
                    self.check(house, rules, liars)

    def test_some_houses_of_three(self):
        for house in plain.houses(3)[::20]:
            for rules in some_rules(house, 2, 3, 2):
                for liars in (0, 1, 2, 3):
                    self.check(house, rules, liars)
            for rules in some_rules(house, 3, 1, 3):
                for liars in (0, 1):
                    self.check(house, rules, liars)

    def test_three_who_go_by_the_most(self):
        for signs in (2, 3):
            for liars in range(4):
                self.check(THREE, (signs, (most_table(signs, 3),) * 3), liars)

    def test_seven_clerks(self):
        most = (2, (most_table(2, 7),) * 7)
        self.assertEqual([tells(EVERY, most, liars) for liars in range(5)], [True] * 4 + [False])
        self.assertEqual([days_told(EVERY, most, liars) for liars in range(5)], [None] * 4 + [0])
        copies = (3, ((0, 1, 2),) * 7)
        self.assertEqual([days_told(EACH, copies, liars) for liars in range(2)], [None, 3])
        found = two_courses(EACH, copies, 1)
        self.check_courses(EACH, copies, 1, found, 4)
        self.assertIs(shows_two_courses(EACH, copies, 1, found), True)

    def test_three_signs_of_seven_clerks(self):
        most = (3, (most_table(3, 7),) * 7)
        self.assertEqual([tells(EVERY, most, liars) for liars in range(2)], [True, True])
        self.assertIsNone(two_courses(EVERY, most, 1))

    def test_slates_that_go_round(self):
        # The numbers' courses are a cycle of two and one of three slates: all pairs come, and none of equal ones.
        house, rows = ((0, 1, 2),) * 3, list(product((0, 1), repeat=3))
        follow = {rows[0]: rows[1], rows[1]: rows[0], rows[7]: rows[6], rows[6]: rows[5], rows[5]: rows[7]}
        tables = tuple(tuple(follow.get(row, row)[clerk] for row in rows) for clerk in range(3))
        self.assertIs(tells(house, (2, tables), 0), True)
        self.check(house, (2, tables), 0)

    def test_slates_that_meet_late(self):
        # 1 falls into the course of 0 only behind many evenings, as a counter runs down.
        rows = list(product((0, 1), repeat=3))
        tables = tuple(tuple(rows[max(place - 1, 0)][clerk] for place in range(8)) for clerk in range(3))
        self.assertEqual(days_told(THREE, (2, tables), 0), 6)
        self.check(THREE, (2, tables), 0)

    def test_never_unless_liars_are_few(self):
        for house in plain.houses(3)[::11]:
            for rules in some_rules(house, 2, 2, 4):
                for liars in range(8):
                    if 2 * liars >= slate_number(house):
                        self.assertIs(tells(house, rules, liars), False)


class ShowsCourses(unittest.TestCase):
    def test_all_pairs_of_nights(self):
        for house, rules, liars in ((ALONE, COPY, 0), (ALONE, COPY, 1), (((0,), (0, 1)), (2, ((0, 1), (0, 0, 1, 1))), 1),
                                    (((0,),), (3, ((0, 1, 2),)), 1), (((0,),), (2, ((1, 0),)), 1)):
            self.check_pairs(house, rules, liars, 1)

    def test_all_pairs_of_two_nights(self):
        self.check_pairs(((0,),), (2, ((0, 1),)), 1, 2)
        self.check_pairs(((0,),), (3, ((0, 2, 1),)), 0, 2)
        self.check_pairs(((1,), (0,)), (2, ((1, 0), (0, 0))), 0, 2)

    def check_pairs(self, house, rules, liars, most):
        meeting = plain.meeting(house, rules, liars)
        some = plain.nights(len(house), rules[0], liars + 1)
        rows = [row for length in range(most + 1) for row in product(some, repeat=length)]
        allowed = plain.nights(len(house), rules[0], liars)
        for zero, one in product(rows, repeat=2):
            wanted = (len(zero) == len(one) == meeting and all(pairs in allowed for pairs in zero + one)
                      and course(house, rules, 0, zero)[-1] == course(house, rules, 1, one)[-1])
            self.assertIs(shows_two_courses(house, rules, liars, (zero, one)), wanted, (house, rules, liars, zero, one))

    def test_values_that_only_look_like_courses(self):
        right = ((((0, 1),),), (((1, 0),),))
        self.assertIs(shows_two_courses(ALONE, COPY, 1, right), True)
        for value in (None, list(right), right[::-1], right + ((),), right[:1], tuple(list(row) for row in right),
                      ((((0, True),),), right[1]), ((((False, 1),),), right[1]), (([(0, 1)],), right[1]),
                      (([[0, 1]],), right[1]), ((((0, 1), (1, 0)),), ((),)), ((((0, 1),), ()), (((1, 0),), ())),
                      (right[0], ((),)), (right[0], None), (None, right[1]), (right[0], ()), (((None,),), right[1]),
                      (((), ((0, 1),)), ((), ((1, 0),))), ((((0, 2),),), right[1]), ((((2, 1),),), right[1]), {}, 1, "",
                      (right[0], right[0]), True):
            self.assertIs(shows_two_courses(ALONE, COPY, 1, value), False, value)

    def test_both_may_strike(self):
        self.assertIs(shows_two_courses(ALONE, COPY, 1, ((((0, 1),),), (((1, 0),),))), True)
        self.assertIs(shows_two_courses(ALONE, COPY, 1, ((((1, 1),),), (((0, 0),),))), True)
        self.assertIs(shows_two_courses(ALONE, COPY, 2, ((((0, 1), (1, 1)),), ((),))), True)
        self.assertIs(shows_two_courses(ALONE, COPY, 2, (((),), (((0, 0), (1, 0)),))), True)

    def test_none(self):
        self.assertIs(shows_two_courses(THREE, MOST, 1, None), True)
        self.assertIs(shows_two_courses(THREE, MOST, 1, ((((0, 1),),), (((1, 0),),))), False)
        self.assertIs(shows_two_courses(THREE, MOST, 2, None), False)


class CouldBe(unittest.TestCase):
    def check(self, house, rules, liars, last):
        zeros, ones = [plain.evenings(house, rules, liars, number, last) for number in (0, 1)]
        for evening in range(last + 1):
            for slates in product(range(rules[0]), repeat=len(house)):
                wanted = (0,) * (slates in zeros[evening]) + (1,) * (slates in ones[evening])
                self.assertEqual(could_be(house, rules, liars, evening, slates), wanted,
                                 (house, rules, liars, evening, slates))

    def test_one_clerk(self):
        for signs in (2, 3):
            for rules in plain.all_rules(((0,),), signs):
                for liars in (0, 1):
                    self.check(((0,),), rules, liars, 3)

    def test_two_clerks(self):
        for house in plain.houses(2):
            for rules in plain.all_rules(house, 2)[::17] + some_rules(house, 3, 2, 7):
                for liars in (0, 1, 2):
                    self.check(house, rules, liars, 2)

    def test_some_houses_of_three(self):
        for house in plain.houses(3)[::60]:
            for rules in some_rules(house, 2, 2, 8) + some_rules(house, 3, 1, 9):
                self.check(house, rules, 1, 2)

    def test_evenings_0_and_200(self):
        turn = (2, ((1, 0),))
        self.assertEqual([could_be(((0,),), turn, 0, evening, (0,)) for evening in (0, 1, 199, 200)], [(0,), (1,), (1,), (0,)])
        self.assertEqual([could_be(((0,),), turn, 1, evening, (0,)) for evening in (0, 1, 200)], [(0,), (0, 1), (0, 1)])
        self.assertEqual(could_be(EACH, (3, ((0, 1, 2),) * 7), 1, 200, (2,) * 7), (0, 1))
        self.assertEqual(could_be(EACH, (3, ((0, 1, 2),) * 7), 0, 200, (2,) * 7), ())

    def test_wrong_evenings(self):
        for evening in (-1, 201, True, False, None, "0", (0,), [0]):
            with self.assertRaises(BadNumber):
                could_be(ALONE, COPY, 1, evening, (0, 0))

    def test_wrong_slates(self):
        for slates in ((), (0,), (0, 0, 0), (0, 2), (0, True), [0, 0], None, "00", 0):
            with self.assertRaises(BadSlates):
                could_be(ALONE, COPY, 1, 0, slates)


class Many(unittest.TestCase):
    """TooMany, by counting all slates and all nights."""

    def sizes(self):
        for many in range(1, 8):
            for signs in (2, 3):
                for liars in range(8):
                    count = signs ** many
                    if many < 6:
                        count *= len(plain.nights(many, signs, liars))
                    else:
                        count *= len({tuple(row) for row in product(range(signs + 1), repeat=many)
                                      if many - row.count(signs) <= liars})
                    yield many, signs, liars, count > 200000

    def test_all_sizes(self):
        answers = set()
        for many, signs, liars, wanted in self.sizes():
            house = tuple((clerk,) for clerk in range(many))
            rules = (signs, (tuple(range(signs)),) * many)
            answers.add(wanted)
            if wanted:
                self.check_too_many(house, rules, liars)
            else:
                self.assertIs(tells(house, rules, liars), liars == 0)
        self.assertEqual(answers, {True, False})

    def check_too_many(self, house, rules, liars):
        value = (((),), ((),))
        for function, rest in ((tells, ()), (days_told, ()), (two_courses, ()), (shows_two_courses, (value,)),
                               (shows_two_courses, (None,)), (could_be, (0, (0,) * len(house)))):
            with self.assertRaises(TooMany) as caught:
                function(house, rules, liars, *rest)
            self.assertEqual(vars(caught.exception), {"most": 200000})

    def test_the_edge(self):
        most = (2, (most_table(2, 7),) * 7)
        self.assertIs(tells(EVERY, most, 4), False)
        self.check_too_many(EVERY, most, 5)
        self.check_too_many(EVERY, (3, (most_table(3, 7),) * 7), 2)

    def test_behind_all_other_errors(self):
        rules = (3, ((0, 1, 2),) * 7)
        with self.assertRaises(BadNumber):
            tells(EACH, rules, 8)
        for evening in (201, -1, True, None):
            with self.assertRaises(BadNumber):
                could_be(EACH, rules, 7, evening, (0,) * 7)
            with self.assertRaises(BadNumber):
                could_be(EACH, rules, 7, evening, None)
        for slates in ((0,) * 6, (3,) * 7, None):
            with self.assertRaises(BadSlates):
                could_be(EACH, rules, 7, 200, slates)
        with self.assertRaises(TooMany):
            could_be(EACH, rules, 7, 200, (0,) * 7)

    def test_course_and_morning_are_never_too_many(self):
        rules = (3, ((0, 1, 2),) * 7)
        night = tuple((slate, 2) for slate in range(7))
        self.assertEqual(course(EACH, rules, 0, (night,) * 200)[-1], (2,) * 7)
