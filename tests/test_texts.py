"""Point 40: texts of houses, rules and nights, there and back."""

import random
import unittest

from nightslates.errors import BadHouse, BadLine, BadNight, BadRules, SlateError
from nightslates.texts import house_text, nights_text, read_house, read_nights, read_rules, rules_text
from tests import plain
from tests.test_coins import FANO, MIXED
from tests.test_courses import some_rules
from tests.test_rules import EACH, EVERY, most_table
from tests.test_values import STRANGE

HOUSE = ((0,), (0, 1))
RULES = (2, ((0, 1), (0, 1, 1, 0)))
THREE_SIGNS = (3, ((0, 2, 1), (0, 1, 2, 0, 1, 2, 2, 1, 0)))
HOUSE_TEXT = "clerk 0 looks at 0\nclerk 1 looks at 0 1\n"
RULES_TEXT = "signs 2\nclerk 0 writes 0 1\nclerk 1 writes 0 1 1 0\n"
NIGHTS = (((0, 1),), (), ((0, 0), (1, 1)))
NIGHTS_TEXT = "night 0=1\nnight\nnight 0=0 1=1\n"

# Among them figures of other scripts, ends of lines of other kinds, and blanks that split() would take for one.
SIGNS = tuple("0123789 \n=-+_|.,cCkln") + (
    "\t", "\r", "\x00", "\x0b", "\x1c", "\x85", "\xa0", "\xb2", "\u0661", "\u2028", "\uff11", "\ud800",
    "00", "\n\n", "\r\n", "  ", " 0", "night", "\nnight\n")


def changed(text):
    """Texts that differ from one in a character, a word, a line, a blank or a newline, some of them good ones."""
    yield from (text[:at] + text[at + 1:] for at in range(len(text)))
    yield from (text[:at] + sign + text[at:] for at in range(len(text) + 1) for sign in SIGNS)
    yield from (text[:at] + sign + text[at + 1:] for at in range(len(text)) for sign in SIGNS)
    yield from (text[:at] for at in range(len(text)))
    yield from (text[at:] for at in range(len(text)))
    for cut in (" ", "\n"):
        parts = text.split(cut)
        for at, part in enumerate(parts):
            for new in ([], [part, part], ["0"], ["signs 3"], ["clerk"], ["night"], [part.upper()], [part + " "]):
                yield cut.join(parts[:at] + new + parts[at + 1:])
            for other in range(at):
                yield cut.join(parts[:other] + [part] + parts[other + 1:at] + [parts[other]] + parts[at + 1:])


class Reading(unittest.TestCase):
    """Readings against the lines that can stand at each place."""

    def check(self, text, wanted, read, written):
        """wanted is the line that is bad, None without one; written gives the text of what is read."""
        if wanted is None:
            self.assertEqual(written(read(text)), text)
        else:
            with self.assertRaises(BadLine, msg=repr(text)) as caught:
                read(text)
            self.assertEqual(vars(caught.exception), {"line": wanted}, repr(text))

    def check_house(self, text):
        allowed = plain.house_lines(len(text.split("\n")) - 1)
        self.check(text, plain.first_bad_line(text, allowed, 1), read_house, house_text)

    def check_rules(self, house, text):
        allowed = plain.rules_lines(house, 3 if text.startswith("signs 3\n") else 2)
        self.check(text, plain.first_bad_line(text, allowed, len(house) + 1),
                   lambda some: read_rules(house, some), lambda rules: rules_text(house, rules))

    def check_nights(self, house, rules, text):
        self.check(text, plain.first_bad_line(text, plain.nights_lines(len(house), rules[0]), 0),
                   lambda some: read_nights(house, rules, some), lambda nights: nights_text(house, rules, nights))

    def test_changed_houses(self):
        for text in (HOUSE_TEXT, house_text(((0,),)), house_text(((2,), (0, 1, 2), (1, 2))), house_text(FANO)):
            for other in changed(text):
                self.check_house(other)

    def test_changed_rules(self):
        for house, rules in ((HOUSE, RULES), (HOUSE, THREE_SIGNS), (((0,),), (3, ((2, 1, 0),)))):
            for other in changed(rules_text(house, rules)):
                self.check_rules(house, other)

    def test_changed_nights(self):
        for house, rules, nights in ((HOUSE, RULES, NIGHTS), (HOUSE, THREE_SIGNS, NIGHTS + (((1, 2),),)),
                                     (((0,),), (2, ((0, 1),)), (((0, 0),), ())), (HOUSE, RULES, ())):
            for other in changed(nights_text(house, rules, nights)):
                self.check_nights(house, rules, other)

    def test_texts_of_one_kind_as_another(self):
        for text in (HOUSE_TEXT, RULES_TEXT, NIGHTS_TEXT, "", "\n", "\n\n", " \n", "\n ", " "):
            self.check_house(text)
            self.check_rules(HOUSE, text)
            self.check_nights(HOUSE, RULES, text)

    def test_lines_at_random(self):
        dice = random.Random(31)
        places = plain.house_lines(2) + plain.rules_lines(HOUSE, 2) + plain.nights_lines(2, 2)[:1]
        lines = sorted(line for some in places for line in some) + ["", "signs 1", "night ", "clerk 2 looks at 0"]
        for _ in range(3000):
            text = "".join(line + "\n" for line in dice.choices(lines, k=dice.randrange(4)))
            self.check_house(text)
            self.check_rules(HOUSE, text)
            self.check_nights(HOUSE, RULES, text)


class ThereAndBack(unittest.TestCase):
    def test_houses(self):
        for house in plain.houses(1) + plain.houses(2) + plain.houses(3) + [EACH, EVERY, FANO, MIXED]:
            lines = [f"clerk {clerk} looks at {plain.words(row)}\n" for clerk, row in enumerate(house)]
            self.assertEqual(house_text(house), "".join(lines))
            self.assertEqual(read_house("".join(lines)), house)

    def test_rules(self):
        for house in plain.houses(1) + plain.houses(2):
            for rules in plain.all_rules(house, 2):
                self.check_rules(house, rules)
        for house in plain.houses(3)[::10] + plain.houses(2):
            for rules in some_rules(house, 3, 4, 32) + some_rules(house, 2, 4, 33):
                self.check_rules(house, rules)
        for house in (EACH, EVERY, FANO, MIXED):
            for signs in (2, 3):
                self.check_rules(house, (signs, tuple(most_table(signs, len(row)) for row in house)))

    def check_rules(self, house, rules):
        text = rules_text(house, rules)
        lines = [f"clerk {clerk} writes {plain.words(table)}\n" for clerk, table in enumerate(rules[1])]
        self.assertEqual(text, f"signs {rules[0]}\n" + "".join(lines))
        self.assertEqual(read_rules(house, text), rules)

    def test_nights(self):
        dice = random.Random(34)
        for house in plain.houses(1) + plain.houses(2) + plain.houses(3)[::40] + [EACH]:
            for rules in some_rules(house, 2, 2, 35) + some_rules(house, 3, 2, 36):
                some = plain.nights(len(house), rules[0], min(len(house), 3))
                self.check_nights(house, rules, ())
                for many in (1, 2, 5):
                    self.check_nights(house, rules, tuple(dice.choices(some, k=many)))
        self.check_nights(EACH, (3, ((0, 1, 2),) * 7), (tuple((slate, slate % 3) for slate in range(7)),) * 200)

    def check_nights(self, house, rules, nights):
        text = nights_text(house, rules, nights)
        self.assertEqual(text, "".join(plain.night_words(pairs) + "\n" for pairs in nights))
        self.assertEqual(read_nights(house, rules, text), nights)

    def test_empty_nights(self):
        self.assertEqual(nights_text(HOUSE, RULES, ()), "")
        self.assertEqual(nights_text(HOUSE, RULES, ((), ())), "night\nnight\n")
        for many in range(3):
            self.assertEqual(read_nights(HOUSE, RULES, "night\n" * many), ((),) * many)

    def test_kinds_of_what_is_read(self):
        values = [read_house(HOUSE_TEXT), read_rules(HOUSE, RULES_TEXT), read_nights(HOUSE, RULES, NIGHTS_TEXT)]
        self.assertEqual(repr(values), repr([HOUSE, RULES, NIGHTS]))


class Lines(unittest.TestCase):
    """Which line BadLine tells."""

    def check(self, wanted, read, *arguments):
        with self.assertRaises(BadLine, msg=arguments) as caught:
            read(*arguments)
        self.assertEqual(vars(caught.exception), {"line": wanted}, arguments)

    def test_no_strings(self):
        for value in STRANGE + ([HOUSE_TEXT], (HOUSE_TEXT,), {HOUSE_TEXT: HOUSE_TEXT}, 0, 1, 5, (), b"night\n"):
            if type(value) is not str:
                self.check(0, read_house, value)
                self.check(0, read_rules, HOUSE, value)
                self.check(0, read_nights, HOUSE, RULES, value)

    def test_empty_texts(self):
        self.check(0, read_house, "")
        self.check(0, read_rules, HOUSE, "")
        self.assertEqual(read_nights(HOUSE, RULES, ""), ())

    def test_last_line_without_its_end(self):
        self.check(1, read_house, HOUSE_TEXT[:-1])
        self.check(2, read_house, HOUSE_TEXT + " ")
        self.check(2, read_house, "no\nno\nclerk")
        self.check(2, read_rules, HOUSE, RULES_TEXT[:-1])
        self.check(0, read_rules, HOUSE, "signs 2")
        self.check(1, read_rules, HOUSE, "signs 4\nclerk 0 writes 0 1")
        self.check(0, read_nights, HOUSE, RULES, "night")
        self.check(2, read_nights, HOUSE, RULES, "\n\nnight")
        self.check(201, read_nights, HOUSE, RULES, "night\n" * 201 + "night")

    def test_only_newlines_end_a_line(self):
        self.check(0, read_house, "clerk 0 looks at 0\rclerk 1 looks at 0\x0bclerk 2 looks at 0\u2028")
        self.check(1, read_rules, HOUSE, "signs\x852\nclerk 0 writes 0 1\r")
        self.check(2, read_nights, HOUSE, RULES, "night\nnight\n\r")
        self.check(1, read_nights, HOUSE, RULES, "night\nnight\r\nnight\n")

    def test_first_bad_line(self):
        self.check(0, read_house, "no\nclerk 1 looks at 0\n")
        self.check(1, read_house, "clerk 0 looks at 0\nno\nno\n")
        self.check(1, read_house, "clerk 0 looks at 0\nclerk 2 looks at 0\nclerk 1 looks at 0\n")
        self.check(2, read_rules, HOUSE, "signs 2\nclerk 0 writes 0 1\nclerk 1 writes 0 1 1\n")
        self.check(1, read_rules, HOUSE, "signs 2\nclerk 0 writes 0 2\nclerk 1 writes 0 1 1\n")
        self.check(1, read_nights, HOUSE, RULES, "night\nnight 0=2\nnight 2=0\n")

    def test_clerks_that_are_looked_at(self):
        self.check(0, read_house, "clerk 0 looks at 1\n")
        self.check(0, read_house, "clerk 0 looks at 2\nclerk 1 looks at 0\n")
        self.check(1, read_house, "clerk 0 looks at 1\nclerk 1 looks at 0 1 2\n")
        self.assertEqual(read_house("clerk 0 looks at 1\nclerk 1 looks at 0\n"), ((1,), (0,)))
        for row in ("", " ", "0 ", "1 0", "0 0", "00", "-0", "+0", "0,1", "0  1", "0 1 ", "O", "01", "0 1 0"):
            self.check(0, read_house, f"clerk 0 looks at {row}\nclerk 1 looks at 0\n")
        self.check(0, read_house, "clerk 0 looks at\nclerk 1 looks at 0\n")

    def test_eight_clerks(self):
        lines = [f"clerk {clerk} looks at 0\n" for clerk in range(12)]
        self.assertEqual(read_house("".join(lines[:7])), ((0,),) * 7)
        for many in range(8, 13):
            self.check(7, read_house, "".join(lines[:many]))
            self.check(many - 1, read_house, "".join(lines[:many])[:-1])
        # No house has a clerk 7 to be looked at, though the text has a line of that number.
        for slate in (7, 8, 9):
            self.check(3, read_house, "".join(lines[:3]) + f"clerk 3 looks at {slate}\n" + "".join(lines[4:]))

    def test_lines_that_are_lacking(self):
        lines = rules_text(EACH, (3, ((0, 1, 2),) * 7)).splitlines(keepends=True)
        self.assertEqual(read_rules(EACH, "".join(lines)), (3, ((0, 1, 2),) * 7))
        for many in range(1, 8):
            self.check(many, read_rules, EACH, "".join(lines[:many]))
        self.check(3, read_rules, EACH, "".join(lines[:3]) + "no\n")

    def test_lines_too_many(self):
        self.check(3, read_rules, HOUSE, RULES_TEXT + "clerk 2 writes 0 1\n")
        self.check(3, read_rules, HOUSE, RULES_TEXT + "\n")
        self.check(3, read_rules, HOUSE, RULES_TEXT + RULES_TEXT)
        self.check(1, read_house, "clerk 0 looks at 0\n\n")

    def test_signs(self):
        for line in ("signs 0", "signs 1", "signs 4", "signs 22", "signs", "signs  2", "signs 2 ", " signs 2",
                     "Signs 2", "signs -2", "signs two", "2", "signs\t2", ""):
            self.check(0, read_rules, ((0,),), f"{line}\nclerk 0 writes 0 1\n")
        self.check(1, read_rules, ((0,),), "signs 3\nclerk 0 writes 0 1\n")
        self.check(1, read_rules, ((0,),), "signs 2\nclerk 0 writes 0 1 2\n")
        self.check(1, read_rules, ((0,),), "signs 2\nclerk 0 writes 0 2\n")

    def test_two_hundred_nights_and_one_more(self):
        text = "night\nnight 1=1\n" * 100
        self.assertEqual(read_nights(HOUSE, RULES, text), ((), ((1, 1),)) * 100)
        self.check(200, read_nights, HOUSE, RULES, text + "night\n")
        self.check(200, read_nights, HOUSE, RULES, text + "no\nno\n")
        self.check(0, read_nights, HOUSE, RULES, "no\n" + text)
        self.check(199, read_nights, HOUSE, RULES, text[:-10] + "no\nnight\n")

    def test_nights(self):
        for line in ("", "night ", " night", "Night", "nights", "night 0", "night 0=", "night =0", "night 0=1 ",
                     "night  0=1", "night 0=1  1=1", "night 0=1 0=0", "night 1=1 0=0", "night 0=2", "night 2=0",
                     "night 0:1", "night 0==1", "night 00=1", "night 0=01", "night 0 = 1", "night 0=1,1=1",
                     "night 0=1\t1=1", "0=1", "night -1=0"):
            self.check(1, read_nights, HOUSE, RULES, f"night\n{line}\nnight\n")
        self.assertEqual(read_nights(HOUSE, THREE_SIGNS, "night 0=2 1=2\n"), (((0, 2), (1, 2)),))


class WrongArguments(unittest.TestCase):
    def check(self, error, fields, function, *arguments):
        with self.assertRaises(SlateError, msg=arguments) as caught:
            function(*arguments)
        self.assertEqual([type(caught.exception), vars(caught.exception)], [error, fields], arguments)

    def test_the_leftmost_one(self):
        self.check(BadHouse, {"clerk": 1}, house_text, ((0,), ()))
        self.check(BadHouse, {"clerk": 1}, rules_text, ((0,), ()), None)
        self.check(BadRules, {"part": "rules"}, rules_text, HOUSE, None)
        self.check(BadHouse, {"clerk": None}, nights_text, [], None, None)
        self.check(BadRules, {"part": "tables"}, nights_text, HOUSE, (2, ((0, 1), (0, 1))), None)
        self.check(BadNight, {}, nights_text, HOUSE, RULES, None)
        self.check(BadHouse, {"clerk": 0}, read_rules, ((1,),), None)
        self.check(BadLine, {"line": 0}, read_rules, HOUSE, None)
        self.check(BadHouse, {"clerk": None}, read_nights, True, None, None)
        self.check(BadRules, {"part": "signs"}, read_nights, HOUSE, (True, RULES[1]), "no\n")
        self.check(BadLine, {"line": 0}, read_nights, HOUSE, RULES, True)

    def test_nights(self):
        for nights in (None, [], [()], ((),) * 201, (None,), (((0, 2),),), (((2, 0),),), (((1, 0), (0, 0)),),
                       (((0, True),),)):
            self.check(BadNight, {}, nights_text, HOUSE, RULES, nights)
        self.assertEqual(nights_text(HOUSE, RULES, ((),) * 200), "night\n" * 200)
