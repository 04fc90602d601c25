"""Point 1: which error a wrong value raises, and that no value is modified."""

import copy
import unittest
from itertools import combinations, product

from nightslates import (benches, coins, crews, desks, errors, houses, readers, rules, schedules, strikers, tales,
                         texts)

# Wrong in the place of every argument but the last one of a function that begins with shows.
STRANGE = (-1, 10 ** 30, "", "0", "(0,)", True, False, None, [], [0], [(0,)], [[0]], [((0,), (0, 1))], {}, {0: 0},
           {"clerk": (0,)}, (None,), (True,), ("0",), ([],), ({},), (-1,), ((0, 0),), ((0,), None), ((0,), [0]),
           ((((0,),),),))

LOTS = ((1, 0), (0, 0), (0, True), (False, 1), (0, 2), (0, 99), (-1, 0), ("0", 1), (None, 0), ((0,), 1), ((),), [0, 1])
RULES = ((), (2,), (2, (), ()), [2, ((0, 1), (0, 1, 1, 0))], (True, ((0, 1), (0, 1, 1, 0))), (2, ((0, 1),)),
         (2, ((0, 1), (0, 1))), (2, ((0, 1), (0, 1, 1, 2))))

# For each kind of argument: a right value, wrong ones, and the error that these raise.
HOUSE = ((0,), (0, 1))
TABLES = (2, ((0, 1), (0, 1, 1, 0)))
KINDS = {
    "house": (HOUSE, STRANGE + ((), ((0,), (1, 0)), ((0,), ()), HOUSE * 4), errors.BadHouse),
    "lot": ((0,), STRANGE + LOTS, errors.BadLot),
    "goal": ((0, 1), STRANGE + LOTS + ((),), errors.BadLot),
    "number": (1, STRANGE + LOTS + ((), 8, "1", (1,), [1]), errors.BadNumber),
    "start": (1, STRANGE + LOTS + ((), 2, "1", (1,), [1]), errors.BadNumber),
    "evening": (200, STRANGE + LOTS + ((), 201, "1", (1,), [1]), errors.BadNumber),
    "rules": (TABLES, STRANGE + RULES, errors.BadRules),
    "slates": ((1, 0), STRANGE + ((), (0,), (0, 0, 0), (0, 2), (0, -1), (0, True), (0, None), [0, 1]), errors.BadSlates),
    "nights": ((((0, 1),), ()), STRANGE + (((),) * 201, [()], ([],), (((0, 1), (0, 0)),), (((2, 0),),)), errors.BadNight),
    "night": (((0, 1),), tuple(value for value in STRANGE if value != ((0, 0),)) + (
        ((0, 0), (0, 1)), ((1, 0), (0, 0)), ((0, 2),), ((2, 0),), ((0, True),), [(0, 1)], ([0, 1],)), errors.BadNight),
    "least": (1, STRANGE + LOTS + ((), 0, 8, "1", (1,), [1]), errors.BadNumber),
    "clerk": (0, STRANGE + LOTS + ((), 2, 7, "1", (1,), [1]), errors.BadNumber),
    "slate": (1, STRANGE + LOTS + ((), 0, 2, 7, "1", (1,), [1]), errors.BadNumber),
    "courses": (((((0, 1),),), (((1, 0),),)), STRANGE + RULES + ((), ((), ()), ((((0, 1),),), ((),))),
                errors.BadCourses),
    "missed": (1, STRANGE + LOTS + ((), 2, 7, "1", (1,), [1]), errors.BadNumber),
    "allowance": ((1, 0), STRANGE + ((), (1,) * 7, (8,), (1, 8), (1, -1), (0, True), (False, 1), (1, None),
                                     ("0", 1), ((1, 0),), [1], [1, 0], 0, 1, 7, "1", (1, ()), (0, 99)), errors.BadNumber),
    "enemy": (((1, 0), (0, 1)), tuple(value for value in STRANGE if value != ((0, 0),)) + (
        (), (1, 0), ((1, 0),) * 7, ((1,),), ((1, 0, 0),), ((8, 0),), ((0, 8),), ((0, -1),), ((True, 0),), ((0, False),),
        [(1, 0)], ([1, 0],), ((1, 0), ()), 1, "10"), errors.BadNumber),
    "line": ("night 0=1", STRANGE + RULES + ("night ", "night 2=0", "night 0=1\n", "could 10", ["night"], ("slates",)),
             errors.BadLine),
    "house text": ("clerk 0 looks at 0\nclerk 1 looks at 0 1\n", STRANGE + RULES + (
        "\n", "clerk 0 looks at 0", "night\n", ["clerk 0 looks at 0\n"], ("clerk 0 looks at 0\n",)), errors.BadLine),
    "rules text": ("signs 2\nclerk 0 writes 0 1\nclerk 1 writes 0 1 1 0\n", STRANGE + RULES + (
        "\n", "signs 2\n", "night\n", ["signs 2\n"], {"signs": 2}), errors.BadLine),
    "nights text": ("night 0=1\nnight\n", tuple(value for value in STRANGE if value != "") + RULES + (
        "\n", "night", "night 2=0\n", ["night\n"], ("night\n",)), errors.BadLine),
}


def bench_begun(house, table, start):
    return benches.Bench(house, table, start).slates


def bench_day(night):
    bench = benches.Bench(HOUSE, TABLES, 1)
    bench.day(night)
    return bench.slates


def bench_could_be(liars):
    return benches.Bench(HOUSE, TABLES, 1).could_be(liars)


def desk_begun(house, table, start):
    return desks.Desk(house, table, start).do("slates")


def desk_do(line):
    return desks.Desk(HOUSE, TABLES, 1).do(line)


CALLS = (
    (houses.after, ("house", "lot", "lot")),
    (coins.slate_number, ("house",)),
    (coins.number_of, ("house", "goal")),
    (coins.days_to, ("house", "number", "goal")),
    (coins.cover_row, ("house", "number", "goal")),
    (coins.closed_family, ("house", "number", "goal")),
    (coins.bears, ("house", "number", "number")),
    (coins.lot_bears, ("house", "number", "number", "goal")),
    (coins.days_borne, ("house", "number", "number")),
    (coins.best_lots, ("house",)),
    (rules.morning, ("house", "rules", "slates")),
    (rules.course, ("house", "rules", "start", "nights")),
    (rules.tells, ("house", "rules", "number")),
    (rules.days_told, ("house", "rules", "number")),
    (rules.two_courses, ("house", "rules", "number")),
    (rules.could_be, ("house", "rules", "number", "evening", "slates")),
    (crews.crew, ("house", "least")),
    (crews.crew_number, ("house",)),
    (crews.beside, ("house", "house")),
    (crews.with_sight, ("house", "clerk", "slate")),
    (crews.best_sight, ("house",)),
    (crews.spare_sights, ("house",)),
    (bench_begun, ("house", "rules", "start")),
    (bench_day, ("night",)),
    (bench_could_be, ("number",)),
    (texts.house_text, ("house",)),
    (texts.rules_text, ("house", "rules")),
    (texts.nights_text, ("house", "rules", "nights")),
    (texts.read_house, ("house text",)),
    (texts.read_rules, ("house", "rules text")),
    (texts.read_nights, ("house", "rules", "nights text")),
    (tales.tale, ("house", "rules", "number", "courses")),
    (strikers.bound_number, ("house", "goal", "lot")),
    (strikers.bound_bears, ("house", "number", "number", "goal", "lot")),
    (strikers.guards, ("house", "number", "number")),
    (schedules.days_by, ("house", "allowance", "goal")),
    (schedules.row_by, ("house", "allowance", "goal")),
    (schedules.bears_by, ("house", "enemy")),
    (schedules.least_rest, ("house", "number")),
    (readers.missed_number, ("house", "missed")),
    (readers.most_missed, ("house", "number", "number")),
    (readers.edge, ("house",)),
    (desk_begun, ("house", "rules", "start")),
    (desk_do, ("line",)),
)

SHOWS = (
    (coins.shows_cover_row, ("house", "number", "goal")),
    (coins.shows_closed_family, ("house", "number", "goal")),
    (rules.shows_two_courses, ("house", "rules", "number")),
    (schedules.shows_row_by, ("house", "allowance", "goal")),
)

ALL_KINDS = STRANGE + LOTS + RULES + tuple(right for right, _, _ in KINDS.values()) + (
    0, 1, 2, 7, (), ((),), ((), ()), ((), (), ()), (((),),), (((),), ((),)), ((0,),), ((1,), (0,)), (((0, 1),), ((1, 0),)),
    ((((0, 1),),), (((0, 0),),)), ((((0, True),),), (((0, 0),),)), (None, None), (0, 1, None), [((),), ((),)],
    ([()], [()]), ({}, {}), {(): ()}, (((((),),),),), "two courses", (((0,), (0,)),))


def right(kinds):
    return [KINDS[kind][0] for kind in kinds]


def many_calls():
    """Each function, its kinds of arguments, and for one that begins with shows a last value behind them."""
    for function, kinds in CALLS:
        yield function, kinds, ()
    for function, kinds in SHOWS:
        for value in (None, [], 7):
            yield function, kinds, (value,)


class WrongValues(unittest.TestCase):
    def raised(self, function, arguments):
        try:
            function(*arguments)
        except errors.SlateError as error:
            return type(error)
        return None

    def test_right_values(self):
        for function, kinds, rest in many_calls():
            self.assertIsNone(self.raised(function, right(kinds) + list(rest)), function.__name__)

    def test_each_argument(self):
        for function, kinds, rest in many_calls():
            for place, kind in enumerate(kinds):
                for value in KINDS[kind][1]:
                    arguments = right(kinds) + list(rest)
                    arguments[place] = value
                    self.assertIs(self.raised(function, arguments), KINDS[kind][2], (function.__name__, place, value))

    def test_two_wrong_arguments(self):
        for function, kinds, rest in many_calls():
            for one, other in combinations(range(len(kinds)), 2):
                for values in product(KINDS[kinds[one]][1][:12], KINDS[kinds[other]][1][-12:]):
                    arguments = right(kinds) + list(rest)
                    arguments[one], arguments[other] = values
                    self.assertIs(self.raised(function, arguments), KINDS[kinds[one]][2],
                                  (function.__name__, one, other, values))

    def test_all_arguments_wrong(self):
        for function, kinds, rest in many_calls():
            arguments = [None for _ in kinds] + list(rest)
            self.assertIs(self.raised(function, arguments), KINDS[kinds[0]][2], function.__name__)

    def test_shows_any_value(self):
        for function, kinds in SHOWS:
            for value in ALL_KINDS:
                self.assertIn(function(*right(kinds), value), (True, False))
                self.assertIs(type(function(*right(kinds), value)), bool, (function.__name__, value))

    def test_shows_where_there_is_none(self):
        for value in ALL_KINDS:
            answers = [coins.shows_cover_row(HOUSE, 0, (0,), value),
                       coins.shows_closed_family(HOUSE, 2, (0,), value),
                       rules.shows_two_courses(HOUSE, (2, ((0, 1), (0, 0, 1, 1))), 0, value),
                       schedules.shows_row_by(HOUSE, (0, 0), (0,), value)]
            self.assertEqual(answers, [value is None] * 4, value)

    def test_deep_values(self):
        deep = ()
        for _ in range(100000):
            deep = (deep,)
        for function, kinds in SHOWS:
            for value in (deep, (deep, deep), ((deep,), (deep,))):
                self.assertIs(function(*right(kinds), value), False, function.__name__)
        for function, kinds, rest in many_calls():
            for place, kind in enumerate(kinds):
                arguments = right(kinds) + list(rest)
                arguments[place] = deep
                self.assertIs(self.raised(function, arguments), KINDS[kind][2], (function.__name__, place))

    def test_nothing_is_modified(self):
        for function, kinds, rest in many_calls():
            arguments = right(kinds) + list(rest)
            before = copy.deepcopy(arguments)
            function(*arguments)
            self.assertEqual(arguments, before, function.__name__)
        for function, kinds in SHOWS:
            for value in ALL_KINDS:
                before = copy.deepcopy(value)
                function(*right(kinds), value)
                self.assertEqual(repr(value), repr(before), function.__name__)

    def test_equal_arguments_have_equal_answers(self):
        for function, kinds, rest in many_calls():
            arguments = right(kinds) + list(rest)
            self.assertEqual(function(*arguments), function(*copy.deepcopy(arguments)), function.__name__)

    def test_kinds_of_answers(self):
        wanted = {"after": tuple, "slate_number": int, "number_of": int, "days_to": int, "cover_row": tuple,
                  "closed_family": type(None), "bears": bool, "lot_bears": bool, "days_borne": int, "best_lots": tuple,
                  "morning": tuple, "course": tuple, "tells": bool, "days_told": int, "two_courses": tuple,
                  "could_be": tuple, "crew": tuple, "crew_number": int, "beside": tuple, "with_sight": tuple,
                  "best_sight": tuple, "spare_sights": tuple, "bench_begun": tuple, "bench_day": tuple,
                  "bench_could_be": tuple, "house_text": str, "rules_text": str, "nights_text": str,
                  "read_house": tuple, "read_rules": tuple, "read_nights": tuple, "tale": str,
                  "bound_number": type(None), "bound_bears": bool, "guards": tuple, "days_by": int, "row_by": tuple,
                  "bears_by": bool, "least_rest": type(None), "missed_number": int, "most_missed": type(None),
                  "edge": tuple, "desk_begun": str, "desk_do": str}
        for function, kinds in CALLS:
            self.assertIs(type(function(*right(kinds))), wanted[function.__name__], function.__name__)


class WrongHouses(unittest.TestCase):
    def test_clerks(self):
        wrong = [(value, None) for value in STRANGE if type(value) is not tuple] + [
            ((), None), (((0,),) * 8, None), (((0,),) * 200, None), (((),) * 8, None),
            ((None,), 0), ((0,), 0), ((True,), 0), (((),), 0), (([0],), 0), (((1,),), 0), (((-1,),), 0),
            (((True,),), 0), ((("0",),), 0), (((None,),), 0), ((((0,),),), 0), (((0, 0),), 0), (({0: 0},), 0),
            (("0",), 0), (((0, 1), (1, 0)), 1), (((0,), ()), 1), (((0,), (0, 2)), 1), (((0,), (0, True)), 1),
            (((0,), (False, 1)), 1), (((0,), [1]), 1), (((0,), None, ()), 1), (((0,), (1,), {}), 2),
            (((0,),) * 6 + ((7,),), 6), (((0, 1, 2), (0, 1, 2), (0, 2, 1)), 2), (((3,), (1,), (2,)), 0)]
        for house, clerk in wrong:
            for function, kinds, rest in many_calls():
                for place in [place for place, kind in enumerate(kinds) if kind == "house"]:
                    arguments = right(kinds) + list(rest)
                    arguments[place] = house
                    with self.assertRaises(errors.BadHouse, msg=(function.__name__, house)) as caught:
                        function(*arguments)
                    self.assertEqual(caught.exception.clerk, clerk, house)

    def test_one_and_seven_clerks(self):
        self.assertEqual(houses.after(((0,),), (), (0,)), (0,))
        self.assertEqual(houses.after(((6,),) * 7, (6,), ()), tuple(range(7)))


class WrongRules(unittest.TestCase):
    def test_parts(self):
        tables = ((0, 1), (0, 1, 1, 0))
        wrong = [(value, "rules") for value in (None, 2, True, "22", [2, tables], {2: tables}, (), (2,), (2, tables, 0))]
        wrong += [((value, tables), "signs")
                  for value in (0, 1, 4, -2, 10 ** 30, True, False, None, "2", (2,), [2], {2: 2})]
        wrong += [((4, None), "signs"), ((None, None), "signs")]
        wrong += [((2, value), "tables")
                  for value in (None, 0, True, "01", [], {}, (), list(tables), tables[:1], tables + tables[:1],
                                (tables[0], tables[0]), (tables[1], tables[1]), (tables[0], list(tables[1])),
                                (tables[0], None), (None, tables[1]), ((0, 2), tables[1]), ((0, True), tables[1]),
                                ((0, -1), tables[1]), ((0, "1"), tables[1]), ((0, 1, 0), tables[1]))]
        wrong += [((3, tables), "tables")]
        for value, part in wrong:
            for function, kinds, rest in many_calls():
                if "rules" in kinds:
                    with self.assertRaises(errors.BadRules, msg=(function.__name__, value)) as caught:
                        function(HOUSE, value, *right(kinds[2:]), *rest)
                    self.assertEqual(caught.exception.part, part, value)
