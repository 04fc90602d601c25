"""Enemies who touch some slates alone (point 42)."""

from nightslates.checks import check_goal, check_house, check_lot
from nightslates.coins import all_slates, can_cover, coins_of_enemy, least_coins, lots_within


def bound_number(house, goal, lot):
    """The least number of coins on slates of a lot alone that can cover a goal, None if no number can."""
    check_house(house)
    check_goal(house, goal)
    check_lot(house, lot)
    return least_coins(house, goal, lot)


def bound_bears(house, liars, wipers, goal, lot):
    """Whether the number can be told from a goal, by some rules, if the enemy touches slates of a lot alone."""
    coins = coins_of_enemy(house, liars, wipers)
    number = bound_number(house, goal, lot)
    return number is None or coins < number


def guards(house, liars, wipers):
    """The lots of as few slates as can be that bear the number if the enemy touches none of these."""
    coins = coins_of_enemy(house, liars, wipers)
    size = 0
    found = _guards_of_size(house, coins, size)
    # It ends: an enemy who touches none of all slates changes nothing.
    while not found:
        size += 1
        found = _guards_of_size(house, coins, size)
    return tuple(found)


def _guards_of_size(house, coins, size):
    """The lots of so many slates without which coins can't cover all slates."""
    slates = all_slates(house)
    return [lot for lot in lots_within(slates, size) if not can_cover(house, coins, slates, _others(house, lot))]


def _others(house, lot):
    """The lot of the slates that are not in a lot."""
    return tuple([slate for slate in all_slates(house) if slate not in lot])
