"""Point 45: a bench led by lines of text."""

import random
import unittest

from nightslates.benches import Bench
from nightslates.desks import Desk
from nightslates.errors import BadHouse, BadLine, BadNight, BadNumber, BadRules, SlateError, TooMany
from nightslates.texts import nights_text, read_nights
from tests import plain
from tests.test_benches import ALONE, COPY, TURN
from tests.test_courses import some_rules
from tests.test_rules import EACH, EVERY, most_table
from tests.test_texts import SIGNS, changed
from tests.test_values import STRANGE

HOUSE = ((0,), (0, 1))
RULES = (2, ((0, 1), (0, 1, 1, 0)))
QUESTIONS = ("slates", "evening", "most") + tuple(f"could {liars}" for liars in range(10))


def answer(bench, line):
    """What a desk answers to a question, by a bench, or the error that the bench raises and its fields."""
    try:
        if line.startswith("could"):
            return plain.words(bench.could_be(int(line[6:])))
    except SlateError as error:
        return type(error), vars(error)
    return {"slates": plain.words(bench.slates), "evening": str(bench.evening), "most": str(bench.struck)}[line]


def answers(desk, lines):
    """What a desk answers to lines, with the errors that it raises and their fields."""
    out = []
    for line in lines:
        try:
            out.append(desk.do(line))
        except SlateError as error:
            out.append((type(error), vars(error)))
    return out


class Beside(unittest.TestCase):
    """A desk and a bench that are led by the same nights."""

    def check(self, house, rules, start, nights):
        desk, bench = Desk(house, rules, start), Bench(house, rules, start)
        for night in nights:
            self.assertEqual(answers(desk, QUESTIONS), [answer(bench, line) for line in QUESTIONS])
            self.assertEqual(desk.do(plain.night_words(night)), "done")
            bench.day(night)
        self.assertEqual(answers(desk, QUESTIONS), [answer(bench, line) for line in QUESTIONS])

    def test_small_houses(self):
        dice = random.Random(51)
        for house in plain.houses(1) + plain.houses(2) + plain.houses(3)[::40]:
            for rules in some_rules(house, 2, 3, 52) + some_rules(house, 3, 2, 53):
                some = plain.nights(len(house), rules[0], 3)
                self.check(house, rules, dice.choice((0, 1)), [dice.choice(some) for _ in range(3)])

    def test_seven_clerks(self):
        dice = random.Random(54)
        some = plain.nights(7, 3, 2)
        for rules in some_rules(EACH, 3, 2, 55):
            self.check(EACH, rules, 1, [dice.choice(some) for _ in range(3)])
        self.check(EVERY, (2, (most_table(2, 7),) * 7), 0, [(), tuple((slate, 1) for slate in range(7))])

    def test_all_nights_of_two_clerks(self):
        for rules in ((2, ((0, 1), (0, 1, 1, 0))), (3, ((0, 2, 1), (0, 1, 2, 0, 1, 2, 2, 1, 0)))):
            for night in plain.nights(2, rules[0], 2):
                self.check(HOUSE, rules, 1, [night])


class Answers(unittest.TestCase):
    def test_kinds(self):
        desk = Desk(ALONE, COPY, 1)
        for line in ("night", "night 0=0 1=1", "slates", "evening", "most", "could 0", "could 7"):
            self.assertIs(type(desk.do(line)), str, line)

    def test_a_line_of_no_pairs(self):
        desk = Desk(((0,),), TURN, 0)
        self.assertEqual(answers(desk, ("night", "slates", "evening", "most", "night", "slates")),
                         ["done", "1", "1", "0", "done", "0"])

    def test_most_is_the_greatest_number(self):
        desk = Desk(ALONE, COPY, 0)
        lines = [line for night in ("night 1=0", "night", "night 0=1 1=1", "night 0=0") for line in (night, "most")]
        self.assertEqual(answers(desk, lines), ["done", "1", "done", "1", "done", "2", "done", "2"])

    def test_could(self):
        desk = Desk(ALONE, COPY, 1)
        self.assertEqual(answers(desk, ("could 0", "could 7", "night 0=0", "could 0", "could 1", "could 2")),
                         ["1", "1", "done", "", "0 1", "0 1"])

    def test_a_question_changes_nothing(self):
        desk = Desk(ALONE, COPY, 1)
        desk.do("night 0=0")
        for _ in range(3):
            self.assertEqual(answers(desk, QUESTIONS[:5]), ["0 1", "1", "1", "", "0 1"])

    def test_desks_of_one_house(self):
        one, other = Desk(ALONE, COPY, 0), Desk(ALONE, COPY, 0)
        one.do("night 1=1")
        self.assertEqual([answers(desk, QUESTIONS[:3]) for desk in (one, other)],
                         [["0 1", "1", "1"], ["0 0", "0", "0"]])

    def test_do_of_the_class_itself(self):
        self.assertTrue(callable(vars(Desk)["do"]))


class ManyDays(unittest.TestCase):
    def test_two_hundred_nights_and_one_more(self):
        desk = Desk(((0,),), TURN, 0)
        for evening in range(200):
            self.assertEqual(answers(desk, ("slates", "evening", "night")), [str(evening % 2), str(evening), "done"])
        for line in ("night", "night 0=1"):
            with self.assertRaises(TooMany) as caught:
                desk.do(line)
            self.assertEqual(vars(caught.exception), {"most": 200})
            self.assertEqual(answers(desk, QUESTIONS[:5]), ["0", "200", "0", "0", "0 1"])
        # A night that can't stand there is told ahead of one too many.
        for line in ("night 1=0", "night 0=2", "night ", "night\n", "nigh", None):
            with self.assertRaises(BadLine, msg=line) as caught:
                desk.do(line)
            self.assertEqual(vars(caught.exception), {"line": 0})


class Wrong(unittest.TestCase):
    def check(self, desk, lines):
        before = answers(desk, QUESTIONS)
        for line in lines:
            with self.assertRaises(BadLine, msg=repr(line)) as caught:
                desk.do(line)
            self.assertEqual(vars(caught.exception), {"line": 0}, repr(line))
            self.assertEqual(answers(desk, QUESTIONS[:3]), before[:3], repr(line))
        self.assertEqual(answers(desk, QUESTIONS), before)

    def begun(self):
        desk = Desk(HOUSE, RULES, 1)
        desk.do("night 0=0")
        return desk

    def test_no_string(self):
        self.check(self.begun(), STRANGE + (0, 1, 7, ("slates",), ["slates"], {"slates": 0}, [["night"]], b"slates"))

    def test_other_words(self):
        self.check(self.begun(), (
            "", " ", "\n", "slate", "Slates", "slates ", " slates", "slates 0", "slates\n", "slates  ", "evenings",
            "evening 1", "EVENING", "evening\n", "struck", "most 1", "most ", "mosts", "day", "done", "nights",
            "Night", " night",
            "night ", "night\n", "signs 2", "clerk 0 looks at 0", "clerk 0 writes 0 1", "slates\nevening",
            "night\nnight", "evening most", "could be 1", "exit", "do", "0=1"))

    def test_could(self):
        self.check(self.begun(), (
            "could", "could ", "could  ", "could  1", "could 1 ", " could 1", "could1", "could\t1", "could 10",
            "could 01", "could 00", "could 1 1", "could 1 2", "could -1", "could +1", "could 1.", "could 1\n",
            "could\n1",
            "could L", "could _", "could True", "could None", "Could 1", "coulds 1", "could 1=0", "could \u0661",
            "could \xb2", "could \uff11", "could 1\x00", "could\xa01", "could 1\u0661"))

    def test_nights_that_cannot_stand_there(self):
        self.check(self.begun(), (
            "night 2=0", "night 0=2", "night 9=9", "night 1=0 0=0", "night 0=0 0=0", "night 0=0 0=1", "night 0=0 1=2",
            "night 0=0 2=0", "night 0=", "night =0", "night 0", "night 0==0", "night 00=0", "night 0=00",
            "night 0=0,1=0", "night  0=0", "night 0=0 ", "night 0=0  1=0", " night 0=0", "night0=0", "night 0 = 0",
            "night\t0=0", "night 0=0\n", "night 0=0\n1=0", "night 0=0\nnight", "night -1=0", "night 0=-1",
            "night \u0660=0", "night 0=\u0660",
            "night \uff10=0", "night \xb2=0", "night 0=\ud800", "night 0:0"))
        three = Desk(((0,),), (3, ((0, 1, 2),)), 0)
        self.assertEqual(answers(three, ("night 0=2", "slates")), ["done", "2"])
        self.check(three, ("night 0=3", "night 1=0"))

    def test_could_with_8_and_9(self):
        desk = self.begun()
        before = answers(desk, QUESTIONS[:8])
        for line in ("could 8", "could 9"):
            with self.assertRaises(BadNumber) as caught:
                desk.do(line)
            self.assertEqual(vars(caught.exception), {})
            self.assertEqual(answers(desk, QUESTIONS[:8]), before)

    def test_could_too_many(self):
        desk = Desk(EACH, (3, ((0, 1, 2),) * 7), 1)
        desk.do("night 3=2 4=0")
        before = answers(desk, QUESTIONS[:5])
        for liars in range(2, 8):
            with self.assertRaises(TooMany) as caught:
                desk.do(f"could {liars}")
            self.assertEqual(vars(caught.exception), {"most": 200000})
        # Too many comes behind all other errors.
        for line, error in (("could 8", BadNumber), ("could 9", BadNumber), ("could 10", BadLine),
                            ("could 7 ", BadLine)):
            with self.assertRaises(error, msg=line):
                desk.do(line)
        self.assertEqual(answers(desk, QUESTIONS[:5]), before)
        self.assertEqual(before, ["1 1 1 2 0 1 1", "1", "2", "", ""])

    def test_changed_lines(self):
        """Lines that differ in a character, a word or a blank, against all lines that a desk takes."""
        nights = {plain.night_words(night) for night in plain.nights(2, 2, 2)}
        taken = nights | set(QUESTIONS)
        desk = self.begun()
        for line in ("slates", "evening", "most", "could 1", "night", "night 0=1", "night 0=1 1=0"):
            for other in list(changed(line)) + [line + sign for sign in SIGNS]:
                if other not in taken:
                    self.check_line(desk, other)
                elif other in nights:
                    self.assertEqual(Desk(HOUSE, RULES, 0).do(other), "done")

    def check_line(self, desk, line):
        with self.assertRaises(BadLine, msg=repr(line)) as caught:
            desk.do(line)
        self.assertEqual(vars(caught.exception), {"line": 0}, repr(line))
        self.assertEqual(answers(desk, QUESTIONS[:3]), ["0 1", "1", "1"], repr(line))

    def test_lines_of_nights_are_those_of_point_40(self):
        for night in plain.nights(2, 2, 2):
            text = nights_text(HOUSE, RULES, (night,))
            self.assertEqual(read_nights(HOUSE, RULES, text), (night,))
            self.assertEqual(Desk(HOUSE, RULES, 0).do(text[:-1]), "done")
            self.check(self.begun(), (text, text[:-1] + "\r", "\n" + text[:-1]))

    def test_which_argument_is_wrong(self):
        for arguments, error, fields in ((((), None, 2), BadHouse, {"clerk": None}),
                                         ((((0,), ()), None, 2), BadHouse, {"clerk": 1}),
                                         ((ALONE, None, 2), BadRules, {"part": "rules"}),
                                         ((ALONE, (True, ()), None), BadRules, {"part": "signs"}),
                                         ((ALONE, (2, ((0, 1),)), True), BadRules, {"part": "tables"}),
                                         ((ALONE, COPY, 2), BadNumber, {}), ((ALONE, COPY, True), BadNumber, {}),
                                         ((ALONE, COPY, False), BadNumber, {}), ((ALONE, COPY, None), BadNumber, {})):
            with self.assertRaises(SlateError) as caught:
                Desk(*arguments)
            self.assertEqual([type(caught.exception), vars(caught.exception)], [error, fields])

    def test_never_a_bad_night(self):
        for line in ("night 2=0", "night 0=2", "night 1=0 0=0", "no"):
            try:
                self.begun().do(line)
            except SlateError as error:
                self.assertNotIsInstance(error, BadNight)
