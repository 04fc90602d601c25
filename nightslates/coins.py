"""Coins that cover slates, and what they tell of an enemy (points 3 to 5).

Within this file a mask is a lot as an integer, with the bit of each clerk of the lot.
"""

from itertools import combinations

from nightslates.checks import MOST_CLERKS, check_goal, check_house, check_number, is_lot
from nightslates.houses import after


def slate_number(house):
    """The least number of coins that can cover all slates."""
    check_house(house)
    return _least_coins(house, _all_slates(house))


def number_of(house, goal):
    """The least number of coins that can cover a goal."""
    check_house(house)
    check_goal(house, goal)
    return _least_coins(house, goal)


def days_to(house, coins, goal):
    """The fewest days within which coins can cover a goal, None if they never can."""
    row = cover_row(house, coins, goal)
    return None if row is None else len(row)


def cover_row(house, coins, goal):
    """A row of lots, as short as can be, that bear coins and so cover a goal, None without any."""
    _check_cover(house, coins, goal)
    return _quickest_row(house, coins, goal)


def shows_cover_row(house, coins, goal, value):
    """Whether cover_row may return a value."""
    row = cover_row(house, coins, goal)
    if row is None or value is None:
        return row is None and value is None
    if type(value) is not tuple or len(value) != len(row):
        return False
    if not all(is_lot(house, lot) and len(lot) <= coins for lot in value):
        return False
    return _row_covers(house, value, goal)


def closed_family(house, coins, goal):
    """Lots that coins never lead out of, none of which holds the goal, None where coins can cover it."""
    _check_cover(house, coins, goal)
    ways = _ways(house, coins)
    if _first_cover(ways, goal) is not None:
        return None
    return tuple(sorted([_lot_of(cover) for cover in ways]))


def shows_closed_family(house, coins, goal, value):
    """Whether closed_family may return a value."""
    _check_cover(house, coins, goal)
    if value is None:
        return _quickest_row(house, coins, goal) is not None
    if not _is_family(house, value):
        return False
    masks = [_mask_of(lot) for lot in value]
    return not any(_holds(mask, goal) for mask in masks) and _is_closed(house, coins, masks)


def bears(house, liars, wipers):
    """Whether by some rules the number can be told from all slates on each evening."""
    coins = _coins_of_enemy(house, liars, wipers)
    return coins < _least_coins(house, _all_slates(house))


def lot_bears(house, liars, wipers, goal):
    """Whether by some rules the number can be told from a goal alone on each evening."""
    coins = _coins_of_enemy(house, liars, wipers)
    check_goal(house, goal)
    return coins < _least_coins(house, goal)


def days_borne(house, liars, wipers):
    """The last evening on which the number can be told from all slates, by some rules, None if there is none."""
    coins = _coins_of_enemy(house, liars, wipers)
    row = _quickest_row(house, coins, _all_slates(house))
    return None if row is None else len(row) - 1


def best_lots(house):
    """The lots of as few slates as can be, not empty, that are as hard to cover as all slates."""
    ways = _ways(house, slate_number(house) - 1)
    lots = []
    for size in range(1, len(house) + 1):
        lots.extend([lot for lot in _lots_of_size(len(house), size) if _first_cover(ways, lot) is None])
    return tuple([lot for lot in lots if len(lot) == len(lots[0])])


def _check_cover(house, coins, goal):
    check_house(house)
    check_number(coins, 0, MOST_CLERKS)
    check_goal(house, goal)


def _coins_of_enemy(house, liars, wipers):
    check_house(house)
    check_number(liars, 0, MOST_CLERKS)
    check_number(wipers, 0, MOST_CLERKS)
    return 2 * liars + wipers


def _all_slates(house):
    return tuple(range(len(house)))


def _mask_of(lot):
    mask = 0
    for clerk in lot:
        mask |= 1 << clerk
    return mask


def _lot_of(mask):
    return tuple([clerk for clerk in range(MOST_CLERKS) if (mask >> clerk) & 1])


def _holds(mask, goal):
    wanted = _mask_of(goal)
    return (mask & wanted) == wanted


def _coin_masks(house, coins):
    """The masks of the lots that may bear coins, but for those within another one of them."""
    # More slates that bear coins never cover fewer, so lots of fewer slates may be left out.
    return [_mask_of(lot) for lot in _lots_of_size(len(house), min(coins, len(house)))]


def _lots_of_size(many, size):
    return list(combinations(range(many), size))


def _next_cover(sights, held):
    """The mask of those whose sights, given as masks, are all held."""
    cover = 0
    for clerk, sight in enumerate(sights):
        if (sight & held) == sight:
            cover |= 1 << clerk
    return cover


def _ways(house, coins):
    """All masks that can come to be covered, those of fewer days first, each with the mask covered the day
    before and the mask of the coins that lead from there; None with that of no slates, where all begin.
    """
    sights = [_mask_of(row) for row in house]
    coin_masks = _coin_masks(house, coins)
    ways = {0: None}
    latest = [0]
    while latest:
        found = []
        for cover in latest:
            for coin_mask in coin_masks:
                following = _next_cover(sights, cover | coin_mask)
                if following not in ways:
                    ways[following] = (cover, coin_mask)
                    found.append(following)
        latest = found
    return ways


def _first_cover(ways, goal):
    """The first mask of those of _ways that holds a goal, None without one."""
    for cover in ways:
        if _holds(cover, goal):
            return cover
    return None


def _quickest_row(house, coins, goal):
    ways = _ways(house, coins)
    cover = _first_cover(ways, goal)
    if cover is None:
        return None
    row = []
    while ways[cover] is not None:
        cover, coin_mask = ways[cover]
        row.append(_lot_of(coin_mask))
    return tuple(row[::-1])


def _least_coins(house, goal):
    coins = 0
    while _first_cover(_ways(house, coins), goal) is None:
        coins += 1
    return coins


def _row_covers(house, row, goal):
    covered = ()
    for coins in row:
        covered = after(house, covered, coins)
    return all(slate in covered for slate in goal)


def _is_family(house, value):
    if type(value) is not tuple or len(value) == 0 or not all(is_lot(house, lot) for lot in value):
        return False
    return all([one < other for one, other in zip(value, value[1:])])


def _is_closed(house, coins, masks):
    sights = [_mask_of(row) for row in house]
    for mask in masks:
        for coin_mask in _coin_masks(house, coins):
            following = _next_cover(sights, mask | coin_mask)
            if not any((following & other) == following for other in masks):
                return False
    return True
