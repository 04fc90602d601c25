"""The texts of houses, of rules and of nights, and what such texts tell (point 40)."""

from nightslates.checks import MOST_CLERKS, MOST_NIGHTS, check_house, check_nights, check_rules
from nightslates.checks import count_rows, is_lot, is_night, is_row_of_signs
from nightslates.errors import BadLine

# What isdigit takes for a figure, and int for a number, is more than these.
FIGURES = ("0", "1", "2", "3", "4", "5", "6", "7", "8", "9")


def house_text(house):
    """The text of a house."""
    check_house(house)
    return "".join([f"clerk {clerk} looks at {words_of(row)}\n" for clerk, row in enumerate(house)])


def rules_text(house, rules):
    """The text of rules."""
    check_house(house)
    check_rules(house, rules)
    signs, tables = rules
    lines = [f"clerk {clerk} writes {words_of(table)}\n" for clerk, table in enumerate(tables)]
    return f"signs {signs}\n" + "".join(lines)


def nights_text(house, rules, nights):
    """The text of nights."""
    check_house(house)
    check_rules(house, rules)
    check_nights(house, rules, nights)
    return "".join([f"{night_line(night)}\n" for night in nights])


def read_house(text):
    """The house that a text tells."""
    lines = _lines(text)
    if len(lines) == 0:
        raise BadLine(0)
    # A line behind the seventh one is none of a clerk, and its number none that can be looked at.
    clerks = lines[:MOST_CLERKS]
    house = []
    for at, line in enumerate(lines):
        row = numbers_behind(f"clerk {at} looks at ", line)
        if at >= MOST_CLERKS or row is None or not is_lot(clerks, row):
            raise BadLine(at)
        house.append(row)
    return tuple(house)


def read_rules(house, text):
    """The rules that a text tells."""
    check_house(house)
    lines = _lines(text)
    if len(lines) == 0 or lines[0] not in ("signs 2", "signs 3"):
        raise BadLine(0)
    signs = int(lines[0][-1])
    tables = []
    for clerk, line in enumerate(lines[1:]):
        table = numbers_behind(f"clerk {clerk} writes ", line)
        if clerk >= len(house) or not is_row_of_signs(signs, count_rows(signs, len(house[clerk])), table):
            raise BadLine(clerk + 1)
        tables.append(table)
    if len(tables) < len(house):
        raise BadLine(len(lines))
    return signs, tuple(tables)


def read_nights(house, rules, text):
    """The nights that a text tells."""
    check_house(house)
    check_rules(house, rules)
    nights = []
    for at, line in enumerate(_lines(text)):
        night = read_night(line)
        if at >= MOST_NIGHTS or not is_night(house, rules[0], night):
            raise BadLine(at)
        nights.append(night)
    return tuple(nights)


def words_of(numbers):
    """Numbers as words, parted by single spaces."""
    return " ".join([str(number) for number in numbers])


def night_line(night):
    """The line of a night in a text, without its end."""
    return " ".join(["night"] + [f"{slate}={sign}" for slate, sign in night])


def numbers_behind(head, line):
    """The numbers that stand behind the head of a line, one at least; None for a line that has no such form."""
    if not line.startswith(head):
        return None
    words = line[len(head):].split(" ")
    if not all([word in FIGURES for word in words]):
        return None
    return tuple([int(word) for word in words])


def read_night(line):
    """The pairs of numbers behind the word night; None for a line that has no such form."""
    first, *words = line.split(" ")
    if first != "night" or not all([_is_pair(word) for word in words]):
        return None
    return tuple([(int(word[0]), int(word[2])) for word in words])


def _lines(text):
    """The lines of a text, without their ends."""
    if type(text) is not str:
        raise BadLine(0)
    if text != "" and not text.endswith("\n"):
        raise BadLine(text.count("\n"))
    return text.split("\n")[:-1]


def _is_pair(word):
    return len(word) == 3 and word[0] in FIGURES and word[1] == "=" and word[2] in FIGURES
