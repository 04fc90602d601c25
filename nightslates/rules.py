"""Rules of few signs, and the courses of slates that they lead to (points 6 and 7).

Within this file the place of slates is their number among all slates of the house in ascending sequence, and a
group is a set of slates as an integer, with the bit of the place of each.
"""

from math import comb

from nightslates.checks import MOST_CLERKS, check_house, check_nights, check_number, check_rules, check_slates
from nightslates.checks import count_rows, is_night
from nightslates.errors import TooMany

MOST_EVENINGS = 200
MOST_CHANGES = 200000


def morning(house, rules, slates):
    """The slates that the clerks write."""
    check_house(house)
    check_rules(house, rules)
    check_slates(house, rules, slates)
    return _written(house, rules, slates)


def course(house, rules, start, nights):
    """The slates of evening 0, all bearing start, and of each evening behind a night and a morning."""
    check_house(house)
    check_rules(house, rules)
    check_number(start, 0, 1)
    check_nights(house, rules, nights)
    return slates_of_course(house, rules, start, nights)


def tells(house, rules, liars):
    """Whether no slates come on one evening of both numbers."""
    return days_told(house, rules, liars) is None


def days_told(house, rules, liars):
    """The last evening up to which no slates come of both numbers, None if they never do."""
    _check_liars(house, rules, liars)
    _check_changes(house, rules, liars)
    evening = _meeting(house, rules, _days(house, rules, liars))
    return None if evening is None else evening - 1


def two_courses(house, rules, liars):
    """Nights, as few as can be, that lead from 0, and as many from 1, to the same slates; None without any."""
    _check_liars(house, rules, liars)
    _check_changes(house, rules, liars)
    days = _days(house, rules, liars)
    evening = _meeting(house, rules, days)
    if evening is None:
        return None
    zeros = _groups(days, _start_group(house, rules, 0), evening)
    ones = _groups(days, _start_group(house, rules, 1), evening)
    end = _members(zeros[-1] & ones[-1])[0]
    return _nights_to(house, rules, days, zeros, end), _nights_to(house, rules, days, ones, end)


def shows_two_courses(house, rules, liars, value):
    """Whether two_courses may return a value."""
    last = days_told(house, rules, liars)
    if last is None or value is None:
        return last is None and value is None
    if type(value) is not tuple or len(value) != 2:
        return False
    if not all([_are_nights(house, rules, liars, last + 1, nights) for nights in value]):
        return False
    ends = [slates_of_course(house, rules, number, value[number])[-1] for number in (0, 1)]
    return ends[0] == ends[1]


def could_be(house, rules, liars, evening, slates):
    """The numbers of which slates can come on an evening."""
    _check_liars(house, rules, liars)
    check_number(evening, 0, MOST_EVENINGS)
    check_slates(house, rules, slates)
    _check_changes(house, rules, liars)
    days = _days(house, rules, liars)
    place = _place(rules[0], slates)
    numbers = []
    for number in (0, 1):
        group = _groups(days, _start_group(house, rules, number), evening)[-1]
        if (group >> place) & 1:
            numbers.append(number)
    return tuple(numbers)


def slates_of_course(house, rules, start, nights):
    """What course returns, for right arguments and for any number of nights."""
    evenings = [(start,) * len(house)]
    for night in nights:
        evenings.append(next_slates(house, rules, evenings[-1], night))
    return tuple(evenings)


def next_slates(house, rules, slates, night):
    """The slates behind a night and a morning, for right arguments."""
    struck = list(slates)
    for slate, sign in night:
        struck[slate] = sign
    return _written(house, rules, struck)


def _check_liars(house, rules, liars):
    check_house(house)
    check_rules(house, rules)
    check_number(liars, 0, MOST_CLERKS)


def _check_changes(house, rules, liars):
    signs = rules[0]
    # No more pairs than clerks fit into a night: comb is 0 for these.
    nights = sum([comb(len(house), pairs) * signs ** pairs for pairs in range(8) if pairs <= liars])
    if count_rows(signs, len(house)) * nights > MOST_CHANGES:
        raise TooMany(MOST_CHANGES)


def _place(signs, row):
    """The number of a row of signs among all rows of its length in ascending sequence."""
    place = 0
    for sign in row:
        place = place * signs + sign
    return place


def _all_rows(signs, length):
    rows = [()]
    for _ in range(length):
        rows = [row + (sign,) for row in rows for sign in range(signs)]
    return rows


def _written(house, rules, slates):
    signs, tables = rules
    return tuple([table[_place(signs, [slates[slate] for slate in row])] for row, table in zip(house, tables)])


def _members(group):
    """The places in a group, ascending."""
    places = []
    while group:
        lowest = group & -group
        places.append(lowest.bit_length() - 1)
        group ^= lowest
    return places


def _union(groups, group):
    """All that is in one of the groups that stand at the places in a group."""
    union = 0
    for place in _members(group):
        union |= groups[place]
    return union


def _near(signs, row):
    """The group of the slates that differ from a row of signs on one slate at most."""
    group = 0
    for slate in range(len(row)):
        for sign in range(signs):
            group |= 1 << _place(signs, row[:slate] + (sign,) + row[slate + 1:])
    return group


def _days(house, rules, liars):
    """For each slates, at their place, the group of those that may come of them by a night and a morning."""
    rows = _all_rows(rules[0], len(house))
    near = [_near(rules[0], row) for row in rows]
    written = [1 << place for place in _mornings(house, rules, rows)]
    struck = [1 << place for place in range(len(rows))]
    for _ in range(min(liars, len(house))):
        struck = [_union(near, group) for group in struck]
    return [_union(written, group) for group in struck]


def _mornings(house, rules, rows):
    """For each of some slates the place of those that are written then."""
    return [_place(rules[0], _written(house, rules, row)) for row in rows]


def _start_group(house, rules, number):
    """The group of the one slates of evening 0."""
    return 1 << _place(rules[0], (number,) * len(house))


def _groups(days, group, evening):
    """The groups that come of one, on each evening up to an evening."""
    groups = [group]
    for _ in range(evening):
        groups.append(_union(days, groups[-1]))
    return groups


def _meeting(house, rules, days):
    """The first evening on which slates come of both numbers, None if they never do."""
    zeros = _start_group(house, rules, 0)
    ones = _start_group(house, rules, 1)
    met = [0] * len(days)
    evening = 0
    while (zeros & ones) == 0:
        # A pair of slates, one of each number, leads to the same pairs on whatever evening it comes. So if all
        # pairs of an evening have come before, no later evening has a pair that has not.
        if not _meet_anew(met, zeros, ones):
            return None
        zeros = _union(days, zeros)
        ones = _union(days, ones)
        evening += 1
    return evening


def _meet_anew(met, zeros, ones):
    """Whether some pair of places in two groups is not in met yet; behind this all of them are."""
    anew = False
    for place in _members(zeros):
        if (met[place] | ones) != met[place]:
            met[place] |= ones
            anew = True
    return anew


def _nights_to(house, rules, days, groups, end):
    """Nights that lead to the place end by way of the groups of each evening."""
    rows = _all_rows(rules[0], len(house))
    mornings = _mornings(house, rules, rows)
    nights = []
    for group in groups[-2::-1]:
        struck = [row for row, place in zip(rows, mornings) if place == end]
        end = [place for place in _members(group) if (days[place] >> end) & 1][0]
        nights.append(min([_changes(rows[end], row) for row in struck], key=len))
    return tuple(nights[::-1])


def _changes(slates, struck):
    """The night of the fewest pairs that makes other slates of some."""
    return tuple([(slate, sign) for slate, sign in enumerate(struck) if sign != slates[slate]])


def _are_nights(house, rules, liars, many, value):
    """Whether a value is a tuple of so many nights, each of at most as many pairs as there are liars."""
    if type(value) is not tuple or len(value) != many:
        return False
    return all([is_night(house, rules[0], night) and len(night) <= liars for night in value])
