"""Second, plain ways of working out what the package returns, for small houses.

Nothing here comes from the package: covered slates are frozensets, and all lots, nights and courses are tried.
"""

from functools import lru_cache
from itertools import combinations, product

def lots(many):
    """All lots of a house of so many clerks, ascending."""
    return sorted(lot for size in range(many + 1) for lot in combinations(range(many), size))


def houses(many):
    """All houses of so many clerks."""
    return list(product(lots(many)[1:], repeat=many))


def step(house, covered, coins):
    held = set(covered) | set(coins)
    return frozenset(clerk for clerk in range(len(house)) if set(house[clerk]) <= held)


@lru_cache(maxsize=None)
def levels(house, coins):
    """Sets of covered slates, new on day 0, on day 1 and so on, by lots of any size that is allowed."""
    some = [lot for lot in lots(len(house)) if len(lot) <= coins]
    out = [{frozenset()}]
    known = {frozenset()}
    while out[-1]:
        out.append({step(house, covered, lot) for covered in out[-1] for lot in some} - known)
        known |= out[-1]
    return out


def days_to(house, coins, goal):
    for day, level in enumerate(levels(house, coins)):
        if any(set(goal) <= covered for covered in level):
            return day
    return None


def number_of(house, goal):
    return min(coins for coins in range(8) if days_to(house, coins, goal) is not None)


def row_covers(house, row, goal):
    covered = frozenset()
    for lot in row:
        covered = step(house, covered, lot)
    return set(goal) <= covered


def is_family(house, coins, goal, family):
    """Whether lots are closed under coins, and do not hold the goal, by the words of point 4."""
    some = [lot for lot in lots(len(house)) if len(lot) <= coins]
    if any(set(goal) <= set(lot) for lot in family):
        return False
    return bool(family) and all(any(step(house, lot, coin) <= set(other) for other in family)
                                for lot in family for coin in some)


def first_untold(house, liars, wipers, goal, last):
    """The first evening up to the last on which signs on a goal come of both numbers, if clerks write all they see.

    To write all that is seen is the best rule, as any other one goes by it. None if there is no such evening.
    """
    many = len(house)
    sides = [{(number,) * many} for number in (0, 1)]
    for evening in range(last + 1):
        if {tuple(s[k] for k in goal) for s in sides[0]} & {tuple(s[k] for k in goal) for s in sides[1]}:
            return evening
        if evening < last:
            signs = sorted({sign for side in sides for slates in side for sign in slates}) + [-1]
            seen = {}
            sides = [{look(house, slates, seen) for slates in night(side, many, liars, wipers, signs)}
                     for side in sides]
    return None


def night(side, many, liars, wipers, signs):
    """All slates behind a night, where -1 is the sign of a wiped slate, which liars may write, too."""
    out = set()
    for kinds in product(("kept", "struck", "wiped"), repeat=many):
        if kinds.count("struck") <= liars and kinds.count("wiped") <= wipers:
            for slates in side:
                words = [{"kept": [sign], "struck": signs, "wiped": [-1]}[kind] for kind, sign in zip(kinds, slates)]
                out |= set(product(*words))
    return out


def look(house, slates, seen):
    """What the clerks write who write all they see: a number for each thing that can be seen."""
    views = [tuple(slates[slate] for slate in row) for row in house]
    return tuple(seen.setdefault(view, len(seen)) for view in views)


def all_rules(house, signs):
    """All rules of a house with so many signs."""
    tables = [product(range(signs), repeat=signs ** len(row)) for row in house]
    return [(signs, chosen) for chosen in product(*tables)]


def nights(many, signs, liars):
    """All nights of at most so many pairs."""
    out = []
    for size in range(min(liars, many) + 1):
        for slates in combinations(range(many), size):
            for words in product(range(signs), repeat=size):
                out.append(tuple(zip(slates, words)))
    return out


def day(house, rules, slates, pairs):
    """The slates behind a night and a morning."""
    signs, tables = rules
    struck = {**dict(enumerate(slates)), **dict(pairs)}
    out = []
    for row, table in zip(house, tables):
        views = list(product(range(signs), repeat=len(row)))
        out.append(table[views.index(tuple(struck[slate] for slate in row))])
    return tuple(out)


def evenings(house, rules, liars, number, last):
    """The sets of slates that can come of a number on each evening up to the last."""
    some = nights(len(house), rules[0], liars)
    out = [{(number,) * len(house)}]
    for _ in range(last):
        out.append({day(house, rules, slates, pairs) for slates in out[-1] for pairs in some})
    return out


def meeting(house, rules, liars):
    """The first evening on which slates come of both numbers, None if they never do: by pairs of slates."""
    some = nights(len(house), rules[0], liars)
    rows = list(product(range(rules[0]), repeat=len(house)))
    follow = {slates: {day(house, rules, slates, pairs) for pairs in some} for slates in rows}
    new = {((0,) * len(house), (1,) * len(house))}
    known = set(new)
    evening = 0
    while new:
        if any(one == other for one, other in new):
            return evening
        new = {(zero, one) for before in new for zero in follow[before[0]] for one in follow[before[1]]} - known
        known |= new
        evening += 1
    return None
