"""Coins by an allowance, and enemies by the day (point 43)."""

from nightslates.checks import MOST_CLERKS, check_goal, check_house, check_number, is_number
from nightslates.coins import all_slates, is_quickest_row, quickest_row
from nightslates.errors import BadNumber

MOST_DAYS = 6


def days_by(house, allowance, goal):
    """The fewest days within which an allowance can cover a goal, None if it never can."""
    row = row_by(house, allowance, goal)
    return None if row is None else len(row)


def row_by(house, allowance, goal):
    """A row of lots, as short as can be, that cover a goal by an allowance, None without any."""
    _check_cover_by(house, allowance, goal)
    return quickest_row(house, allowance, goal)


def shows_row_by(house, allowance, goal, value):
    """Whether row_by may return a value."""
    _check_cover_by(house, allowance, goal)
    return is_quickest_row(house, allowance, goal, value)


def bears_by(house, enemy):
    """Whether by some rules the number can be told from all slates on each evening against an enemy by the day."""
    check_house(house)
    if not _are_days(enemy) or not all(_is_enemy_of_a_day(pair) for pair in enemy):
        raise BadNumber(f"no tuple of 1 to {MOST_DAYS} pairs of integers from 0 to {MOST_CLERKS}")
    return _never_covers(house, tuple([2 * liars + wipers for liars, wipers in enemy]))


def least_rest(house, coins):
    """The least number of days without coins behind each day with some that leaves all slates never covered."""
    check_house(house)
    check_number(coins, 0, MOST_CLERKS)
    for rest in range(MOST_DAYS):
        if _never_covers(house, (coins,) + (0,) * rest):
            return rest
    return None


def _check_cover_by(house, allowance, goal):
    check_house(house)
    if not _are_days(allowance) or not all(is_number(coins, 0, MOST_CLERKS) for coins in allowance):
        raise BadNumber(f"no tuple of 1 to {MOST_DAYS} integers from 0 to {MOST_CLERKS}")
    check_goal(house, goal)


def _are_days(value):
    """Whether a value is a tuple of as many things as an allowance may have."""
    return type(value) is tuple and 1 <= len(value) <= MOST_DAYS


def _is_enemy_of_a_day(value):
    """Whether a value is a pair (liars, wipers)."""
    return type(value) is tuple and len(value) == 2 and all(is_number(many, 0, MOST_CLERKS) for many in value)


def _never_covers(house, allowance):
    """Whether coins by an allowance never can cover all slates."""
    return quickest_row(house, allowance, all_slates(house)) is None
