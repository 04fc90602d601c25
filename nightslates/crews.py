"""Crews of clerks, houses side by side, and sights more or less (points 8 and 9)."""

from nightslates.checks import MOST_CLERKS, check_house, check_number
from nightslates.coins import slate_number
from nightslates.errors import BadNumber, TooMany


def crew(house, least):
    """The greatest lot of clerks each of whom looks at least at so many slates of the lot."""
    check_house(house)
    check_number(least, 1, MOST_CLERKS)
    lot = tuple(range(len(house)))
    kept = _who_look(house, lot, least)
    # Who looks at too few of a lot looks at too few of each lot within it, so nobody is ever taken back.
    while kept != lot:
        lot = kept
        kept = _who_look(house, lot, least)
    return lot


def crew_number(house):
    """The greatest number of slates for which there is a crew."""
    check_house(house)
    return max([least for least in range(1, MOST_CLERKS + 1) if crew(house, least)])


def beside(one, other):
    """The house of the clerks of one house and, numbered on behind them, those of another one."""
    check_house(one)
    check_house(other)
    if len(one) + len(other) > MOST_CLERKS:
        raise TooMany(MOST_CLERKS)
    return one + tuple([tuple([slate + len(one) for slate in row]) for row in other])


def with_sight(house, clerk, slate):
    """The house in which a clerk looks at one slate more."""
    check_house(house)
    check_number(clerk, 0, len(house) - 1)
    check_number(slate, 0, len(house) - 1)
    if slate in house[clerk]:
        raise BadNumber("the clerk looks at this slate already")
    return _with_row(house, clerk, sorted(house[clerk] + (slate,)))


def best_sight(house):
    """The least sight not there yet that makes the slate number greatest, and that number, None if there is none."""
    check_house(house)
    best = None
    for clerk, row in enumerate(house):
        for slate in range(len(house)):
            if slate not in row:
                number = slate_number(with_sight(house, clerk, slate))
                if best is None or number > best[2]:
                    best = (clerk, slate, number)
    return best


def spare_sights(house):
    """The pairs (clerk, slate) each of which can be left out alone without changing the slate number."""
    number = slate_number(house)
    spare = []
    for clerk, row in enumerate(house):
        if len(row) > 1:
            spare.extend([(clerk, slate) for slate in row if slate_number(_without(house, clerk, slate)) == number])
    return tuple(spare)


def _who_look(house, lot, least):
    """Those of a lot who look at least at so many slates of it."""
    return tuple([clerk for clerk in lot if len([slate for slate in house[clerk] if slate in lot]) >= least])


def _with_row(house, clerk, row):
    """The house in which a clerk looks at other slates."""
    return house[:clerk] + (tuple(row),) + house[clerk + 1:]


def _without(house, clerk, slate):
    """The house in which a clerk looks at one slate less."""
    return _with_row(house, clerk, [other for other in house[clerk] if other != slate])
