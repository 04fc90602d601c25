"""Readers who miss some slates, and the edge of what a house bears (point 44)."""

from nightslates.checks import check_house, check_number
from nightslates.coins import coins_of_enemy, covered_lots, slate_number


def missed_number(house, missed):
    """The least number of coins that can cover some lot of all slates but so many."""
    check_house(house)
    check_number(missed, 0, len(house) - 1)
    coins = 0
    while _most_covered(house, coins) < len(house) - missed:
        coins += 1
    return coins


def most_missed(house, liars, wipers):
    """The greatest number of slates that may be missed by who tells the number, None if not even with all seen."""
    most = _most_covered(house, coins_of_enemy(house, liars, wipers))
    # The number can be told from one slate more than ever are covered, whichever these are, and not from fewer.
    return None if most == len(house) else len(house) - most - 1


def edge(house):
    """For 0, 1 and so on liars, as many as are borne, the greatest number of wipers that are borne besides."""
    # A liar counts for two wipers, and no house bears more than 6 of these.
    return tuple(range(slate_number(house) - 1, -1, -2))


def _most_covered(house, coins):
    """The greatest number of slates that coins, so many each day, can come to cover at once."""
    return max([len(lot) for lot in covered_lots(house, coins)])
