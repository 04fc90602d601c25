"""Houses of clerks, and the slates that coins cover in them (point 2)."""

from nightslates.checks import check_house, check_lot


def after(house, covered, coins):
    """The slates covered the next day."""
    check_house(house)
    check_lot(house, covered)
    check_lot(house, coins)
    held = covered + coins
    return tuple([clerk for clerk, row in enumerate(house) if all([slate in held for slate in row])])
