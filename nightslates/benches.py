"""A house at work, night for night (point 10)."""

from nightslates.checks import MOST_NIGHTS, check_house, check_night, check_number, check_rules
from nightslates.errors import TooMany
from nightslates.rules import could_be, next_slates


class Bench:
    """A house that writes by rules, and begins on evening 0 with start on all slates."""

    def __init__(self, house, rules, start):
        check_house(house)
        check_rules(house, rules)
        check_number(start, 0, 1)
        self._house = house
        self._rules = rules
        self._slates = (start,) * len(house)
        self._evening = 0
        self._struck = 0

    def day(self, night):
        """Let a night and a morning pass."""
        check_night(self._house, self._rules, night)
        if self._evening == MOST_NIGHTS:
            raise TooMany(MOST_NIGHTS)
        self._slates = next_slates(self._house, self._rules, self._slates, night)
        self._evening += 1
        self._struck = max(self._struck, len(night))

    def could_be(self, liars):
        """The numbers of which these slates can come this evening."""
        return could_be(self._house, self._rules, liars, self._evening, self._slates)

    @property
    def slates(self):
        """The slates this evening."""
        return self._slates

    @property
    def evening(self):
        """How many nights there were."""
        return self._evening

    @property
    def struck(self):
        """The greatest number of pairs in one of the nights, 0 without any."""
        return self._struck
