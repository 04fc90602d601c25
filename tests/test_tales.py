"""Point 41: a tale of two courses."""

import unittest
from itertools import product

from nightslates.errors import BadCourses, BadHouse, BadNumber, BadRules, SlateError, TooMany
from nightslates.rules import course, days_told, shows_two_courses, two_courses
from nightslates.tales import tale
from nightslates.texts import nights_text
from tests import plain
from tests.test_courses import ALONE, COPY, MOST, THREE, some_rules
from tests.test_rules import EACH, EVERY
from tests.test_values import ALL_KINDS


class Tales(unittest.TestCase):
    def check(self, house, rules, liars):
        value = two_courses(house, rules, liars)
        if value is None:
            with self.assertRaises(BadCourses):
                tale(house, rules, liars, value)
        else:
            told = tale(house, rules, liars, value)
            self.assertEqual(told, plain.tale(house, rules, value), (house, rules, liars))
            self.check_courses(house, rules, value, told.split("\n"))

    def check_courses(self, house, rules, value, lines):
        """The lines against course and nights_text, each line of them apart."""
        sides = [course(house, rules, number, nights) for number, nights in enumerate(value)]
        texts = [nights_text(house, rules, nights).split("\n") for nights in value]
        self.assertEqual(len(lines), 2 * len(sides[0]))
        self.assertEqual(lines.pop(), "")
        for evening, (zero, one) in enumerate(zip(*sides)):
            self.assertEqual(lines[2 * evening], f"evening {evening}: {plain.words(zero)} | {plain.words(one)}")
        for at, (zero, one) in enumerate(zip(*[text[:-1] for text in texts])):
            self.assertEqual(lines[2 * at + 1], f"{zero} | {one}")

    def test_one_clerk(self):
        for signs in (2, 3):
            for rules in plain.all_rules(((0,),), signs):
                for liars in (0, 1, 7):
                    self.check(((0,),), rules, liars)

    def test_two_clerks(self):
        for house in plain.houses(2):
            for rules in plain.all_rules(house, 2)[::3] + some_rules(house, 3, 4, 21):
                for liars in (0, 1, 2):
                    self.check(house, rules, liars)

    def test_some_houses_of_three(self):
        for house in plain.houses(3)[::15]:
            for rules in some_rules(house, 2, 3, 22):
                for liars in range(4):
                    self.check(house, rules, liars)
            for rules in some_rules(house, 3, 1, 23):
                self.check(house, rules, 1)

    def test_any_two_courses(self):
        told = set()
        some = plain.nights(2, 2, 2)
        for zero, one in product(some, repeat=2):
            value = ((zero,), (one,))
            if shows_two_courses(ALONE, COPY, 2, value):
                self.assertEqual(tale(ALONE, COPY, 2, value), plain.tale(ALONE, COPY, value))
                told.add(tale(ALONE, COPY, 2, value))
            else:
                with self.assertRaises(BadCourses):
                    tale(ALONE, COPY, 2, value)
        # One tale for each way of writing and each end: nothing of a night is left out.
        self.assertEqual(len(told), sum(plain.day(ALONE, COPY, (0, 0), zero) == plain.day(ALONE, COPY, (1, 1), one)
                                        for zero, one in product(some, repeat=2)))

    def test_seven_clerks(self):
        copies = (3, ((0, 1, 2),) * 7)
        value = two_courses(EACH, copies, 1)
        self.assertEqual(len(value[0]), 4)
        self.assertEqual(tale(EACH, copies, 1, value), plain.tale(EACH, copies, value))

    def test_both_nights_empty(self):
        same = (2, ((1, 1),))
        self.assertEqual(tale(((0,),), same, 0, (((),), ((),))), "evening 0: 0 | 1\nnight | night\nevening 1: 1 | 1\n")

    def test_more_nights_than_a_course_may_have(self):
        # 1 walks through all other slates ahead of those of 0: course would not take so many nights.
        house, rows = (tuple(range(5)),) * 5, list(product(range(3), repeat=5))
        walk = [row for row in rows if row not in ((0,) * 5, (1,) * 5)]
        follow = dict(zip([(1,) * 5, *walk, (0,) * 5], [*walk, (0,) * 5, (0,) * 5]))
        rules = (3, tuple(tuple(follow[row][clerk] for row in rows) for clerk in range(5)))
        self.assertEqual(days_told(house, rules, 0), 241)
        value = (((),) * 242,) * 2
        lines = tale(house, rules, 0, value).split("\n")
        self.assertEqual(len(lines), 2 * 243)
        self.assertEqual(lines[:2], ["evening 0: 0 0 0 0 0 | 1 1 1 1 1", "night | night"])
        self.assertEqual(lines[-2:], ["evening 242: 0 0 0 0 0 | 0 0 0 0 0", ""])
        for evening, row in enumerate([(1,) * 5, *walk]):
            self.assertEqual(lines[2 * evening], f"evening {evening}: 0 0 0 0 0 | {plain.words(row)}")


class WrongCourses(unittest.TestCase):
    def test_values_that_are_none(self):
        right = ((((0, 1),),), (((1, 0),),))
        self.assertEqual(tale(ALONE, COPY, 1, right), plain.tale(ALONE, COPY, right))
        for value in ALL_KINDS + (
                list(right), right[::-1], right + ((),), right[:1], ((((0, True),),), right[1]),
                ((((0, 1), ()),), right[1]), (([(0, 1)],), right[1]), ((((0, 1),), ()), (((1, 0),), ())),
                (right[0], ((),)), (right[0], None),
                (right[0], ()), ((), ()), ((((0, 1), (1, 0)),), right[1]), ((((0, 2),),), right[1])):
            # By repr, as a value that has True for 1 is equal to the right one.
            if repr(value) != repr(right):
                self.assertIs(shows_two_courses(ALONE, COPY, 1, value), False)
                with self.assertRaises(BadCourses, msg=value) as caught:
                    tale(ALONE, COPY, 1, value)
                self.assertEqual(vars(caught.exception), {})

    def test_none_where_there_are_none(self):
        self.assertIs(shows_two_courses(THREE, MOST, 1, None), True)
        for value in (None, (((),), ((),)), ((), ())):
            with self.assertRaises(BadCourses):
                tale(THREE, MOST, 1, value)

    def test_none_where_there_are_some(self):
        self.assertIs(shows_two_courses(THREE, MOST, 2, None), False)
        with self.assertRaises(BadCourses):
            tale(THREE, MOST, 2, None)

    def test_other_errors_come_first(self):
        many = (3, ((0, 1, 2),) * 7)
        for arguments, error, fields in (
                ((((0,), ()), None, 9, None), BadHouse, {"clerk": 1}),
                (((), many, 7, None), BadHouse, {"clerk": None}),
                ((EACH, (3, ()), 9, None), BadRules, {"part": "tables"}),
                ((EACH, None, 7, None), BadRules, {"part": "rules"}),
                ((EACH, (4, ()), 7, None), BadRules, {"part": "signs"}), ((EACH, many, 8, None), BadNumber, {}),
                ((EACH, many, True, ((), ())), BadNumber, {}), ((EACH, many, 2, None), TooMany, {"most": 200000}),
                ((EACH, many, 7, ((), ())), TooMany, {"most": 200000}), ((EACH, many, 2, 7), TooMany, {"most": 200000}),
                ((EACH, many, 1, None), BadCourses, {}), ((EVERY, None, 7, None), BadRules, {"part": "rules"})):
            with self.assertRaises(SlateError) as caught:
                tale(*arguments)
            self.assertEqual([type(caught.exception), vars(caught.exception)], [error, fields], arguments)
