"""Point 10: a house at work, night for night."""

import random
import unittest

from nightslates import rules as point_7
from nightslates.benches import Bench
from nightslates.errors import BadHouse, BadNight, BadNumber, BadRules, SlateError, TooMany
from nightslates.rules import course, morning
from tests import plain
from tests.test_courses import some_rules
from tests.test_rules import EACH, EVERY, most_table
from tests.test_values import KINDS

ALONE, COPY = ((0,), (1,)), (2, ((0, 1), (0, 1)))
TURN = (2, ((1, 0),))


def shown(bench):
    return bench.slates, bench.evening, bench.struck


class Days(unittest.TestCase):
    def check(self, house, rules, start, nights):
        """A bench against morning and against plain days, night for night."""
        bench = Bench(house, rules, start)
        slates = (start,) * len(house)
        self.assertEqual(shown(bench), (slates, 0, 0))
        for evening, night in enumerate(nights, 1):
            self.assertIsNone(bench.day(night))
            struck = tuple(dict(night).get(slate, sign) for slate, sign in enumerate(slates))
            self.assertEqual(morning(house, rules, struck), plain.day(house, rules, slates, night))
            slates = morning(house, rules, struck)
            most = max(len(before) for before in nights[:evening])
            self.assertEqual(shown(bench), (slates, evening, most), (house, rules, start, nights))
        self.assertEqual(bench.slates, course(house, rules, start, tuple(nights))[-1])

    def test_small_houses(self):
        dice = random.Random(11)
        for house in plain.houses(1) + plain.houses(2) + plain.houses(3)[::20]:
            for rules in some_rules(house, 2, 4, 12) + some_rules(house, 3, 2, 13):
                some = plain.nights(len(house), rules[0], 3)
                for start in (0, 1):
                    self.check(house, rules, start, [dice.choice(some) for _ in range(6)])

    def test_seven_clerks(self):
        dice = random.Random(14)
        some = plain.nights(7, 3, 3)
        for rules in some_rules(EACH, 3, 3, 15):
            self.check(EACH, rules, 1, [dice.choice(some) for _ in range(12)])
        for night in ((), tuple((slate, slate % 2) for slate in range(7))):
            self.check(EVERY, (2, (most_table(2, 7),) * 7), 0, [night] * 2)

    def test_struck_is_the_greatest_number(self):
        bench = Bench(ALONE, COPY, 0)
        struck = []
        for night in ((), ((1, 0),), (), ((0, 1), (1, 1)), ((0, 0),), ()):
            bench.day(night)
            struck.append(bench.struck)
        self.assertEqual(struck, [0, 1, 1, 2, 2, 2])

    def test_a_night_that_writes_what_stands_there(self):
        bench = Bench(ALONE, COPY, 1)
        bench.day(((0, 1), (1, 1)))
        self.assertEqual(shown(bench), ((1, 1), 1, 2))

    def test_benches_of_one_house(self):
        one, other = Bench(ALONE, COPY, 0), Bench(ALONE, COPY, 0)
        one.day(((1, 1),))
        self.assertEqual([shown(one), shown(other)], [((0, 1), 1, 1), ((0, 0), 0, 0)])

    def test_properties_and_methods_of_the_class_itself(self):
        for name in ("slates", "evening", "struck"):
            self.assertIs(type(vars(Bench)[name]), property, name)
        self.assertTrue(callable(vars(Bench)["day"]) and callable(vars(Bench)["could_be"]))


class ManyDays(unittest.TestCase):
    def test_two_hundred_nights_and_one_more(self):
        bench = Bench(((0,),), TURN, 0)
        for evening in range(200):
            self.assertEqual(shown(bench), ((evening % 2,), evening, 0))
            bench.day(())
        for night in ((), ((0, 1),)):
            with self.assertRaises(TooMany) as caught:
                bench.day(night)
            self.assertEqual(vars(caught.exception), {"most": 200})
            self.assertEqual(shown(bench), ((0,), 200, 0))
        self.assertEqual([bench.could_be(0), bench.could_be(1)], [(0,), (0, 1)])

    def test_wrong_nights_ahead_of_too_many(self):
        bench = Bench(((0,),), TURN, 0)
        for _ in range(200):
            bench.day(((0, 0),))
        for night in (None, ((1, 0),), ((0, 2),), [()], True):
            with self.assertRaises(BadNight):
                bench.day(night)
        self.assertEqual(shown(bench), ((1,), 200, 1))


class CouldBe(unittest.TestCase):
    def check(self, house, rules, start, nights):
        bench = Bench(house, rules, start)
        for night in nights + [()]:
            for liars in (0, 1, 2, 7):
                zeros, ones = [plain.evenings(house, rules, liars, number, bench.evening)[-1] for number in (0, 1)]
                wanted = (0,) * (bench.slates in zeros) + (1,) * (bench.slates in ones)
                self.assertEqual(bench.could_be(liars), wanted)
                self.assertEqual(point_7.could_be(house, rules, liars, bench.evening, bench.slates), wanted)
                self.assertTrue(liars < bench.struck or start in wanted)
            bench.day(night)

    def test_small_houses(self):
        dice = random.Random(16)
        for house in plain.houses(1) + plain.houses(2) + plain.houses(3)[::60]:
            for rules in some_rules(house, 2, 3, 17) + some_rules(house, 3, 1, 18):
                some = plain.nights(len(house), rules[0], 2)
                self.check(house, rules, dice.choice((0, 1)), [dice.choice(some) for _ in range(2)])

    def test_without_any_night(self):
        for start in (0, 1):
            bench = Bench(EVERY, (2, (most_table(2, 7),) * 7), start)
            self.assertEqual([bench.could_be(liars) for liars in range(5)], [(start,)] * 5)
            self.assertEqual(shown(bench), ((start,) * 7, 0, 0))

    def test_wrong_liars_and_too_many(self):
        bench = Bench(EACH, (3, ((0, 1, 2),) * 7), 1)
        bench.day(((3, 2), (4, 0)))
        before = shown(bench)
        for liars in (-1, 8, True, False, None, "1", (1,), [1], {}):
            with self.assertRaises(BadNumber):
                bench.could_be(liars)
        for liars in range(2, 8):
            with self.assertRaises(TooMany) as caught:
                bench.could_be(liars)
            self.assertEqual(vars(caught.exception), {"most": 200000})
        self.assertEqual([bench.could_be(0), bench.could_be(1), shown(bench)], [(), (), before])


class Wrong(unittest.TestCase):
    def test_a_call_that_raises_changes_nothing(self):
        right, wrong, _ = KINDS["night"]
        house, rules = KINDS["house"][0], KINDS["rules"][0]
        bench, twin = Bench(house, rules, 1), Bench(house, rules, 1)
        for night in (right, (), ((0, 0), (1, 1)), ((1, 0),)):
            for value in wrong + (((0, 0), (1, 2)), ((0, 0), (2, 0)), ((0, 1), (0, 0)), ((0, 1), None)):
                with self.assertRaises(BadNight, msg=value):
                    bench.day(value)
                self.assertEqual(shown(bench), shown(twin))
            for value in KINDS["number"][1]:
                with self.assertRaises(BadNumber, msg=value):
                    bench.could_be(value)
                self.assertEqual(shown(bench), shown(twin))
            bench.day(night)
            twin.day(night)
            self.assertEqual(shown(bench), shown(twin))

    def test_which_argument_is_wrong(self):
        for arguments, error, fields in ((((), None, 2), BadHouse, {"clerk": None}),
                                         ((((0,), ()), None, 2), BadHouse, {"clerk": 1}),
                                         ((ALONE, None, 2), BadRules, {"part": "rules"}),
                                         ((ALONE, (True, ()), None), BadRules, {"part": "signs"}),
                                         ((ALONE, (2, ((0, 1),)), True), BadRules, {"part": "tables"}),
                                         ((ALONE, COPY, 2), BadNumber, {}), ((ALONE, COPY, True), BadNumber, {}),
                                         ((ALONE, COPY, False), BadNumber, {}), ((ALONE, COPY, None), BadNumber, {})):
            with self.assertRaises(SlateError) as caught:
                Bench(*arguments)
            self.assertEqual([type(caught.exception), vars(caught.exception)], [error, fields])

    def test_signs_of_the_rules(self):
        two, three = Bench(((0,),), (2, ((0, 1),)), 0), Bench(((0,),), (3, ((0, 1, 2),)), 0)
        with self.assertRaises(BadNight):
            two.day(((0, 2),))
        three.day(((0, 2),))
        self.assertEqual([shown(two), shown(three)], [((0,), 0, 0), ((2,), 1, 1)])
