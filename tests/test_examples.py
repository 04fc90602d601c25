"""The examples of the interface."""

import unittest

from nightslates.benches import Bench
from nightslates.coins import (bears, best_lots, closed_family, days_borne, days_to, number_of, shows_closed_family,
                               shows_cover_row, slate_number)
from nightslates.crews import beside, best_sight, crew, crew_number, spare_sights, with_sight
from nightslates.desks import Desk
from nightslates.errors import BadCourses, BadHouse, BadLine, BadLot, BadNight, BadRules, TooMany
from nightslates.houses import after
from nightslates.readers import edge, missed_number, most_missed
from nightslates.rules import could_be, course, days_told, morning, shows_two_courses, tells, two_courses
from nightslates.schedules import bears_by, days_by, least_rest, shows_row_by
from nightslates.strikers import bound_bears, bound_number, guards
from nightslates.tales import tale
from nightslates.texts import house_text, nights_text, read_house, read_nights, read_rules, rules_text

THREE, ALONE = ((0, 1, 2),) * 3, ((0,), (1,))
COPY = (2, ((0, 1), (0, 1)))
MOST = (2, ((0, 0, 0, 1, 0, 1, 1, 1),) * 3)


class Examples(unittest.TestCase):
    def test_houses(self):
        self.assertEqual([after(THREE, (0,), (1, 2)), after(((0,), (0, 1)), (0,), ())], [(0, 1, 2), (0,)])

    def test_houses_error(self):
        with self.assertRaises(BadHouse) as caught:
            after(((0,), ()), (), ())
        self.assertEqual(vars(caught.exception), {"clerk": 1})

    def test_coins_numbers(self):
        self.assertEqual(
            [slate_number(THREE), slate_number(ALONE), bears(THREE, 1, 0), bears(THREE, 1, 1), days_borne(THREE, 1, 1),
             days_borne(ALONE, 0, 1), best_lots(THREE)],
            [3, 1, True, False, 0, 1, ((0,), (1,), (2,))])

    def test_coins_rows(self):
        self.assertEqual(
            [days_to(ALONE, 1, (0, 1)), days_to(ALONE, 0, (0,)), shows_cover_row(ALONE, 1, (0, 1), ((1,), (0,))),
             shows_closed_family(ALONE, 0, (0,), closed_family(ALONE, 0, (0,))),
             shows_closed_family(THREE, 2, (0,), ((),))],
            [2, None, True, True, True])

    def test_coins_error(self):
        with self.assertRaises(BadLot) as caught:
            number_of(ALONE, ())
        self.assertEqual(vars(caught.exception), {})

    def test_rules(self):
        self.assertEqual(
            [morning(THREE, MOST, (0, 1, 1)), [tells(THREE, MOST, liars) for liars in range(3)],
             days_told(THREE, MOST, 2), two_courses(THREE, MOST, 1)],
            [(1, 1, 1), [True, True, False], 0, None])

    def test_rules_courses(self):
        self.assertEqual(
            [course(THREE, MOST, 0, (((2, 1),), ())), could_be(THREE, MOST, 2, 1, (1, 1, 1)),
             shows_two_courses(THREE, MOST, 2, ((((0, 1), (1, 1)),), ((),)))],
            [((0, 0, 0), (0, 0, 0), (0, 0, 0)), (0, 1), True])

    def test_rules_error(self):
        with self.assertRaises(BadRules) as caught:
            tells(THREE, (2, ((0, 1),) * 3), 1)
        self.assertEqual(vars(caught.exception), {"part": "tables"})

    def test_crews(self):
        self.assertEqual(
            [crew(((0, 1), (0, 1), (2,)), 2), crew_number(((0,), (1,))), beside(((0,),), ((0, 1), (0,))),
             with_sight(((0,), (1,)), 0, 1), best_sight(((0,), (1,))), spare_sights(((0, 1), (1,)))],
            [(0, 1), 1, ((0,), (1, 2), (1,)), ((0, 1), (1,)), (0, 1, 1), ((0, 0), (0, 1))])

    def test_crews_error(self):
        with self.assertRaises(TooMany) as caught:
            beside(((0,),) * 4, ((0,),) * 4)
        self.assertEqual(vars(caught.exception), {"most": 7})

    def test_benches(self):
        bench = Bench(ALONE, COPY, 1)
        self.assertEqual(
            [bench.day(((0, 0),)), bench.slates, bench.evening, bench.struck, bench.could_be(1), bench.could_be(0)],
            [None, (0, 1), 1, 1, (0, 1), ()])
        with self.assertRaises(BadNight) as caught:
            bench.day(((2, 0),))
        self.assertEqual(vars(caught.exception), {})

    def test_texts(self):
        self.assertEqual(
            [house_text(ALONE), read_house("clerk 0 looks at 0\n"), rules_text(ALONE, COPY),
             read_rules(ALONE, rules_text(ALONE, COPY)) == COPY, nights_text(ALONE, COPY, (((0, 1),), ())),
             read_nights(ALONE, COPY, "night 1=0\n")],
            ["clerk 0 looks at 0\nclerk 1 looks at 1\n", ((0,),),
             "signs 2\nclerk 0 writes 0 1\nclerk 1 writes 0 1\n", True, "night 0=1\nnight\n", (((1, 0),),)])

    def test_texts_error(self):
        with self.assertRaises(BadLine) as caught:
            read_house("clerk 0 looks at 1\n")
        self.assertEqual(vars(caught.exception), {"line": 0})

    def test_tales(self):
        self.assertEqual(tale(THREE, MOST, 2, ((((0, 1), (1, 1)),), ((),))),
                         "evening 0: 0 0 0 | 1 1 1\nnight 0=1 1=1 | night\nevening 1: 1 1 1 | 1 1 1\n")

    def test_tales_error(self):
        with self.assertRaises(BadCourses) as caught:
            tale(THREE, MOST, 1, None)
        self.assertEqual(vars(caught.exception), {})

    def test_strikers(self):
        self.assertEqual(
            [bound_number(THREE, (0,), (0, 1)), bound_number(ALONE, (0, 1), (0, 1)),
             bound_bears(THREE, 7, 7, (0,), (0, 1)), guards(THREE, 2, 0), guards(THREE, 1, 0)],
            [None, 1, True, ((0,), (1,), (2,)), ((),)])

    def test_schedules(self):
        self.assertEqual(
            [days_by(ALONE, (0, 1), (0, 1)), days_by(THREE, (2, 1), (0,)),
             shows_row_by(ALONE, (0, 1), (0, 1), ((), (0,), (), (1,))), bears_by(THREE, ((1, 0), (1, 1))),
             least_rest(ALONE, 1), least_rest(THREE, 2)],
            [4, None, True, False, None, 0])

    def test_readers(self):
        self.assertEqual(
            [missed_number(THREE, 2), most_missed(THREE, 1, 0), most_missed(THREE, 1, 1), edge(THREE)],
            [3, 2, None, (2, 0)])

    def test_desks(self):
        desk = Desk(ALONE, COPY, 1)
        self.assertEqual(
            [desk.do("night 0=0"), desk.do("slates"), desk.do("evening"), desk.do("most"), desk.do("could 1"),
             desk.do("could 0")],
            ["done", "0 1", "1", "1", "0 1", ""])
        with self.assertRaises(BadLine) as caught:
            desk.do("night 2=0")
        self.assertEqual(vars(caught.exception), {"line": 0})
