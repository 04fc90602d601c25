"""Coins that cover slates, and what they tell of an enemy (points 3 to 5).

Within this file a mask is a lot as an integer, with the bit of each clerk of the lot. An allowance is a tuple of how
many coins there are on day 0, 1 and so on, then again from its beginning; (coins,) are as many each day. The search
for what coins can cover serves points 42 to 44, too.
"""

from itertools import combinations

from nightslates.checks import MOST_CLERKS, check_goal, check_house, check_number, is_lot
from nightslates.houses import after


def slate_number(house):
    """The least number of coins that can cover all slates."""
    check_house(house)
    return least_coins(house, all_slates(house), all_slates(house))


def number_of(house, goal):
    """The least number of coins that can cover a goal."""
    check_house(house)
    check_goal(house, goal)
    return least_coins(house, goal, all_slates(house))


def days_to(house, coins, goal):
    """The fewest days within which coins can cover a goal, None if they never can."""
    row = cover_row(house, coins, goal)
    return None if row is None else len(row)


def cover_row(house, coins, goal):
    """A row of lots, as short as can be, that bear coins and so cover a goal, None without any."""
    _check_cover(house, coins, goal)
    return quickest_row(house, (coins,), goal)


def shows_cover_row(house, coins, goal, value):
    """Whether cover_row may return a value."""
    _check_cover(house, coins, goal)
    return is_quickest_row(house, (coins,), goal, value)


def closed_family(house, coins, goal):
    """Lots that coins never lead out of, none of which holds the goal, None where coins can cover it."""
    _check_cover(house, coins, goal)
    if can_cover(house, coins, goal, all_slates(house)):
        return None
    return covered_lots(house, coins)


def shows_closed_family(house, coins, goal, value):
    """Whether closed_family may return a value."""
    _check_cover(house, coins, goal)
    if value is None:
        return can_cover(house, coins, goal, all_slates(house))
    if not _is_family(house, value):
        return False
    masks = [_mask_of(lot) for lot in value]
    return not any(_holds(mask, goal) for mask in masks) and _is_closed(house, coins, masks)


def bears(house, liars, wipers):
    """Whether by some rules the number can be told from all slates on each evening."""
    return coins_of_enemy(house, liars, wipers) < slate_number(house)


def lot_bears(house, liars, wipers, goal):
    """Whether by some rules the number can be told from a goal alone on each evening."""
    return coins_of_enemy(house, liars, wipers) < number_of(house, goal)


def days_borne(house, liars, wipers):
    """The last evening on which the number can be told from all slates, by some rules, None if there is none."""
    coins = coins_of_enemy(house, liars, wipers)
    row = quickest_row(house, (coins,), all_slates(house))
    return None if row is None else len(row) - 1


def best_lots(house):
    """The lots of as few slates as can be, not empty, that are as hard to cover as all slates."""
    number = slate_number(house)
    ways = _ways(house, all_slates(house), (number - 1,))
    lots = []
    for size in range(1, len(house) + 1):
        lots.extend([lot for lot in lots_within(all_slates(house), size) if _first_cover(ways, lot) is None])
    return tuple([lot for lot in lots if len(lot) == len(lots[0])])


def all_slates(house):
    """The lot of all slates."""
    return tuple(range(len(house)))


def lots_within(lot, size):
    """The lots of so many slates within a lot, ascending."""
    slates = list(lot)
    return list(combinations(slates, size))


def coins_of_enemy(house, liars, wipers):
    """The coins that do as much as an enemy: two for each liar and one for each wiper."""
    check_house(house)
    check_number(liars, 0, MOST_CLERKS)
    check_number(wipers, 0, MOST_CLERKS)
    return 2 * liars + wipers


def can_cover(house, coins, goal, lot):
    """Whether coins, so many each day, on slates of a lot alone can cover a goal, for right arguments."""
    return _first_cover(_ways(house, lot, (coins,)), goal) is not None


def least_coins(house, goal, lot):
    """The least number of coins on slates of a lot alone that can cover a goal, None if no number can."""
    for coins in range(len(lot) + 1):
        if can_cover(house, coins, goal, lot):
            return coins
    return None


def covered_lots(house, coins):
    """The lots that can come to be covered by coins, so many each day, ascending."""
    ways = _ways(house, all_slates(house), (coins,))
    return tuple(sorted([_lot_of(place[0]) for place in ways]))


def quickest_row(house, allowance, goal):
    """A row of lots, as short as can be, that cover a goal by an allowance, None without any."""
    ways = _ways(house, all_slates(house), allowance)
    place = _first_cover(ways, goal)
    if place is None:
        return None
    row = []
    while ways[place] is not None:
        place, coin_mask = ways[place]
        row.append(_lot_of(coin_mask))
    return tuple(row[::-1])


def is_quickest_row(house, allowance, goal, value):
    """Whether quickest_row may return a value."""
    row = quickest_row(house, allowance, goal)
    if row is None or value is None:
        return row is None and value is None
    if type(value) is not tuple or len(value) != len(row):
        return False
    for day, lot in enumerate(value):
        if not is_lot(house, lot) or len(lot) > allowance[day % len(allowance)]:
            return False
    return _row_covers(house, value, goal)


def _check_cover(house, coins, goal):
    check_house(house)
    check_number(coins, 0, MOST_CLERKS)
    check_goal(house, goal)


def _mask_of(lot):
    mask = 0
    for clerk in lot:
        mask |= 1 << clerk
    return mask


def _lot_of(mask):
    return tuple([clerk for clerk in range(MOST_CLERKS) if (mask >> clerk) & 1])


def _holds(mask, goal):
    wanted = _mask_of(goal)
    return (mask & wanted) == wanted


def _coin_masks(lot, coins):
    """The masks of the lots within a lot that may bear coins, but for those within another one of them."""
    # More slates that bear coins never cover fewer, so lots of fewer slates may be left out.
    return [_mask_of(some) for some in lots_within(lot, min(coins, len(lot)))]


def _next_cover(sights, held):
    """The mask of those whose sights, given as masks, are all held."""
    cover = 0
    for clerk, sight in enumerate(sights):
        if (sight & held) == sight:
            cover |= 1 << clerk
    return cover


def _ways(house, lot, allowance):
    """All places that coins on slates of a lot alone lead to by an allowance, those of fewer days first: the mask
    that is covered, and the day of the allowance then. Each is told with the place of the day before and the mask
    of the coins that lead from there; the one where all begin with None.
    """
    sights = [_mask_of(row) for row in house]
    coin_masks = [_coin_masks(lot, coins) for coins in allowance]
    ways = {(0, 0): None}
    latest = [(0, 0)]
    while latest:
        found = []
        for cover, day in latest:
            next_day = (day + 1) % len(allowance)
            for coin_mask in coin_masks[day]:
                following = (_next_cover(sights, cover | coin_mask), next_day)
                if following not in ways:
                    ways[following] = ((cover, day), coin_mask)
                    found.append(following)
        latest = found
    return ways


def _first_cover(ways, goal):
    """The first place of those of _ways whose mask holds a goal, None without one."""
    for cover, day in ways:
        if _holds(cover, goal):
            return cover, day
    return None


def _row_covers(house, row, goal):
    covered = ()
    for coins in row:
        covered = after(house, covered, coins)
    return all(slate in covered for slate in goal)


def _is_family(house, value):
    if type(value) is not tuple or len(value) == 0 or not all(is_lot(house, lot) for lot in value):
        return False
    return all([one < other for one, other in zip(value, value[1:])])


def _is_closed(house, coins, masks):
    sights = [_mask_of(row) for row in house]
    for mask in masks:
        for coin_mask in _coin_masks(all_slates(house), coins):
            following = _next_cover(sights, mask | coin_mask)
            if not any((following & other) == following for other in masks):
                return False
    return True
