"""The checks of arguments that the modules of the package share."""

from nightslates.errors import BadHouse, BadLot, BadNight, BadNumber, BadRules, BadSlates

MOST_CLERKS = 7
MOST_NIGHTS = 200


def is_number(value, low, high):
    """Whether a value is an integer from low to high."""
    # True and False would pass for 1 and 0 if they were only compared.
    return type(value) is int and low <= value <= high


def is_lot(house, value):
    """Whether a value is an ascending tuple of clerks, numbered as the things in a tuple, the house, are."""
    if type(value) is not tuple:
        return False
    least = 0
    for clerk in value:
        if not is_number(clerk, least, len(house) - 1):
            return False
        least = clerk + 1
    return True


def is_night(house, signs, value):
    """Whether a value is a night of a house and so many signs."""
    if type(value) is not tuple:
        return False
    least = 0
    for pair in value:
        if type(pair) is not tuple or len(pair) != 2:
            return False
        slate, sign = pair
        if not is_number(slate, least, len(house) - 1) or not is_number(sign, 0, signs - 1):
            return False
        least = slate + 1
    return True


def is_row_of_signs(signs, length, value):
    """Whether a value is a tuple of so many of the signs."""
    if type(value) is not tuple or len(value) != length:
        return False
    return all(is_number(sign, 0, signs - 1) for sign in value)


def count_rows(signs, length):
    """How many rows of so many signs there are of a length."""
    many = 1
    for _ in range(length):
        many = many * signs
    return many


def check_number(value, low, high):
    if not is_number(value, low, high):
        raise BadNumber(f"no integer from {low} to {high}")


def check_house(house):
    if type(house) is not tuple or not 1 <= len(house) <= MOST_CLERKS:
        raise BadHouse(None)
    for clerk, row in enumerate(house):
        if not is_lot(house, row) or len(row) == 0:
            raise BadHouse(clerk)


def check_lot(house, lot):
    if not is_lot(house, lot):
        raise BadLot("no ascending tuple of clerks of the house")


def check_goal(house, goal):
    check_lot(house, goal)
    if len(goal) == 0:
        raise BadLot("a goal is not empty")


def check_rules(house, rules):
    if type(rules) is not tuple or len(rules) != 2:
        raise BadRules("rules")
    signs, tables = rules
    if not is_number(signs, 2, 3):
        raise BadRules("signs")
    if type(tables) is not tuple or len(tables) != len(house):
        raise BadRules("tables")
    for row, table in zip(house, tables):
        if not is_row_of_signs(signs, count_rows(signs, len(row)), table):
            raise BadRules("tables")


def check_slates(house, rules, slates):
    if not is_row_of_signs(rules[0], len(house), slates):
        raise BadSlates("no tuple of a sign for each clerk")


def check_night(house, rules, night):
    if not is_night(house, rules[0], night):
        raise BadNight("no tuple of pairs of a slate and a sign, slates ascending")


def check_nights(house, rules, nights):
    if type(nights) is not tuple or len(nights) > MOST_NIGHTS:
        raise BadNight(f"no tuple of at most {MOST_NIGHTS} nights")
    for night in nights:
        check_night(house, rules, night)
