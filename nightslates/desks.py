"""A bench that is led by lines of text (point 45)."""

from nightslates.benches import Bench
from nightslates.errors import BadLine, BadNight
from nightslates.texts import numbers_behind, read_night, words_of


class Desk:
    """A house that writes by rules, begins on evening 0 with start on all slates, and is led by lines."""

    def __init__(self, house, rules, start):
        self._bench = Bench(house, rules, start)

    def do(self, line):
        """Let a night pass, or tell what is asked."""
        if type(line) is not str:
            raise BadLine(0)
        if line == "slates":
            return words_of(self._bench.slates)
        if line == "evening":
            return str(self._bench.evening)
        if line == "most":
            return str(self._bench.struck)
        figures = numbers_behind("could ", line)
        if figures is not None and len(figures) == 1:
            return words_of(self._bench.could_be(figures[0]))
        self._let_pass(line)
        return "done"

    def _let_pass(self, line):
        """Let the night of a line pass."""
        # A line that has no such form gives None, which is no night of a bench either.
        try:
            self._bench.day(read_night(line))
        except BadNight:
            raise BadLine(0) from None
