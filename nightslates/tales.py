"""A tale of two courses that lead to the same slates (point 41)."""

from nightslates.errors import BadCourses
from nightslates.rules import shows_two_courses, slates_of_course
from nightslates.texts import night_line, words_of


def tale(house, rules, liars, value):
    """Two courses, of 0 and of 1, evening for evening and night for night."""
    shown = shows_two_courses(house, rules, liars, value)
    if value is None or not shown:
        raise BadCourses("no two courses that lead to the same slates")
    zeros = slates_of_course(house, rules, 0, value[0])
    ones = slates_of_course(house, rules, 1, value[1])
    lines = [_evening_line(0, zeros[0], ones[0])]
    for before, (zero, one) in enumerate(zip(value[0], value[1])):
        lines.append(f"{night_line(zero)} | {night_line(one)}\n")
        lines.append(_evening_line(before + 1, zeros[before + 1], ones[before + 1]))
    return "".join(lines)


def _evening_line(evening, zero, one):
    return f"evening {evening}: {words_of(zero)} | {words_of(one)}\n"
