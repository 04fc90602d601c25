"""Second, plain ways of working out what the package returns, for small houses.

Nothing here comes from the package: covered slates are frozensets, and all lots, nights and courses are tried.
"""

from functools import lru_cache
from itertools import combinations, product


def lots(many):
    """All lots of a house of so many clerks, ascending."""
    return sorted(lot for size in range(many + 1) for lot in combinations(range(many), size))


def houses(many):
    """All houses of so many clerks."""
    return list(product(lots(many)[1:], repeat=many))


def step(house, covered, coins):
    held = set(covered) | set(coins)
    return frozenset(clerk for clerk in range(len(house)) if set(house[clerk]) <= held)


@lru_cache(maxsize=None)
def levels(house, coins):
    """Sets of covered slates, new on day 0, on day 1 and so on, by lots of any size that is allowed."""
    some = [lot for lot in lots(len(house)) if len(lot) <= coins]
    out = [{frozenset()}]
    known = {frozenset()}
    while out[-1]:
        out.append({step(house, covered, lot) for covered in out[-1] for lot in some} - known)
        known |= out[-1]
    return out


def days_to(house, coins, goal):
    for day, level in enumerate(levels(house, coins)):
        if any(set(goal) <= covered for covered in level):
            return day
    return None


def number_of(house, goal):
    return min(coins for coins in range(8) if days_to(house, coins, goal) is not None)


def row_covers(house, row, goal):
    covered = frozenset()
    for lot in row:
        covered = step(house, covered, lot)
    return set(goal) <= covered


@lru_cache(maxsize=None)
def reached(house, coins, lot):
    """All sets of slates that can come to be covered by lots of any size that is allowed within a lot."""
    some = [part for part in lots(len(house)) if len(part) <= coins and set(part) <= set(lot)]
    known, new = {frozenset()}, {frozenset()}
    while new:
        new = {step(house, covered, part) for covered in new for part in some} - known
        known |= new
    return known


def bound_number(house, goal, lot):
    numbers = [coins for coins in range(8) if any(set(goal) <= covered for covered in reached(house, coins, lot))]
    return min(numbers, default=None)


def guards(house, liars, wipers):
    many = len(house)
    found = []
    for lot in lots(many):
        others = tuple(slate for slate in range(many) if slate not in lot)
        if not any(len(covered) == many for covered in reached(house, 2 * liars + wipers, others)):
            found.append(lot)
    return tuple(lot for lot in found if len(lot) == min(map(len, found)))


def days_by(house, allowance, goal):
    """Day by day all sets of slates that can be covered, until they come again at the same place of the allowance."""
    covers, day, known = frozenset({frozenset()}), 0, set()
    while (covers, day % len(allowance)) not in known:
        known.add((covers, day % len(allowance)))
        if any(set(goal) <= covered for covered in covers):
            return day
        some = [lot for lot in lots(len(house)) if len(lot) <= allowance[day % len(allowance)]]
        covers = frozenset(step(house, covered, lot) for covered in covers for lot in some)
        day += 1
    return None


def least_rest(house, coins):
    for rest in range(6):
        if days_by(house, (coins,) + (0,) * rest, range(len(house))) is None:
            return rest
    return None


def missed_number(house, missed):
    return min(number_of(house, lot) for lot in lots(len(house)) if len(lot) == len(house) - missed)


def most_missed(house, liars, wipers):
    borne = [missed for missed in range(len(house)) if 2 * liars + wipers < missed_number(house, missed)]
    return max(borne, default=None)


def edge(house):
    number = number_of(house, range(len(house)))
    return tuple(max(wipers for wipers in range(8) if 2 * liars + wipers < number)
                 for liars in range(8) if 2 * liars < number)


def is_family(house, coins, goal, family):
    """Whether lots are closed under coins, and do not hold the goal, by the words of point 4."""
    some = [lot for lot in lots(len(house)) if len(lot) <= coins]
    if any(set(goal) <= set(lot) for lot in family):
        return False
    return bool(family) and all(any(step(house, lot, coin) <= set(other) for other in family)
                                for lot in family for coin in some)


def first_untold(house, liars, wipers, goal, last, touched=range(7)):
    """The first evening up to the last on which signs on a goal come of both numbers, if clerks write all they see.

    To write all that is seen is the best rule, as any other one goes by it. None if there is no such evening.
    """
    return first_untold_by(house, ((liars, wipers),), goal, last, touched)


def first_untold_by(house, enemy, goal, last, touched=range(7)):
    """The same for an enemy by the day, who touches some slates alone."""
    many = len(house)
    sides = [{(number,) * many} for number in (0, 1)]
    for evening in range(last + 1):
        if {tuple(s[k] for k in goal) for s in sides[0]} & {tuple(s[k] for k in goal) for s in sides[1]}:
            return evening
        if evening < last:
            liars, wipers = enemy[evening % len(enemy)]
            signs = sorted({sign for side in sides for slates in side for sign in slates}) + [-1]
            seen = {}
            sides = [{look(house, slates, seen) for slates in night(side, many, liars, wipers, signs, touched)}
                     for side in sides]
    return None


def night(side, many, liars, wipers, signs, touched):
    """All slates behind a night, where -1 is the sign of a wiped slate, which liars may write, too."""
    out = set()
    for kinds in product(*[("kept", "struck", "wiped") if slate in touched else ("kept",) for slate in range(many)]):
        if kinds.count("struck") <= liars and kinds.count("wiped") <= wipers:
            for slates in side:
                words = [{"kept": [sign], "struck": signs, "wiped": [-1]}[kind] for kind, sign in zip(kinds, slates)]
                out |= set(product(*words))
    return out


def look(house, slates, seen):
    """What the clerks write who write all they see: a number for each thing that can be seen."""
    views = [tuple(slates[slate] for slate in row) for row in house]
    return tuple(seen.setdefault(view, len(seen)) for view in views)


def all_rules(house, signs):
    """All rules of a house with so many signs."""
    tables = [product(range(signs), repeat=signs ** len(row)) for row in house]
    return [(signs, chosen) for chosen in product(*tables)]


def nights(many, signs, liars):
    """All nights of at most so many pairs."""
    out = []
    for size in range(min(liars, many) + 1):
        for slates in combinations(range(many), size):
            for words in product(range(signs), repeat=size):
                out.append(tuple(zip(slates, words)))
    return out


def day(house, rules, slates, pairs):
    """The slates behind a night and a morning."""
    signs, tables = rules
    struck = {**dict(enumerate(slates)), **dict(pairs)}
    out = []
    for row, table in zip(house, tables):
        views = list(product(range(signs), repeat=len(row)))
        out.append(table[views.index(tuple(struck[slate] for slate in row))])
    return tuple(out)


def evenings(house, rules, liars, number, last):
    """The sets of slates that can come of a number on each evening up to the last."""
    some = nights(len(house), rules[0], liars)
    out = [{(number,) * len(house)}]
    for _ in range(last):
        out.append({day(house, rules, slates, pairs) for slates in out[-1] for pairs in some})
    return out


def meeting(house, rules, liars):
    """The first evening on which slates come of both numbers, None if they never do: by pairs of slates."""
    some = nights(len(house), rules[0], liars)
    rows = list(product(range(rules[0]), repeat=len(house)))
    follow = {slates: {day(house, rules, slates, pairs) for pairs in some} for slates in rows}
    new = {((0,) * len(house), (1,) * len(house))}
    known = set(new)
    evening = 0
    while new:
        if any(one == other for one, other in new):
            return evening
        new = {(zero, one) for before in new for zero in follow[before[0]] for one in follow[before[1]]} - known
        known |= new
        evening += 1
    return None


def crew(house, least):
    """The greatest lot of a crew, by all lots: the one that holds all the others."""
    found = [set(lot) for lot in lots(len(house)) if all(len(set(house[clerk]) & set(lot)) >= least for clerk in lot)]
    greatest = max(found, key=len)
    assert all(lot <= greatest for lot in found)
    return tuple(sorted(greatest))


def change_sight(house, clerk, slate):
    """The house in which a clerk looks at a slate if not before, and else not any more."""
    rows = [set(row) for row in house]
    rows[clerk] ^= {slate}
    return tuple(tuple(sorted(row)) for row in rows)


def best_sight(house):
    missing = [(clerk, slate) for clerk, row in enumerate(house) for slate in range(len(house)) if slate not in row]
    numbers = {pair: number_of(change_sight(house, *pair), range(len(house))) for pair in missing}
    best = [pair for pair in missing if numbers[pair] == max(numbers.values())]
    return (*min(best), numbers[min(best)]) if missing else None


def spare_sights(house):
    number = number_of(house, range(len(house)))
    pairs = [(clerk, slate) for clerk, row in enumerate(house) for slate in row if len(row) > 1]
    return tuple(pair for pair in pairs if number_of(change_sight(house, *pair), range(len(house))) == number)


def words(numbers):
    return " ".join(map(str, numbers))


def night_words(pairs):
    return " ".join(["night", *(f"{slate}={sign}" for slate, sign in pairs)])


def tale(house, rules, value):
    """The lines of two courses, by plain days."""
    sides = [(0,) * len(house), (1,) * len(house)]
    text = f"evening 0: {words(sides[0])} | {words(sides[1])}\n"
    for evening, both in enumerate(zip(*value), 1):
        sides = [day(house, rules, slates, pairs) for slates, pairs in zip(sides, both)]
        text += f"{night_words(both[0])} | {night_words(both[1])}\n"
        text += f"evening {evening}: {words(sides[0])} | {words(sides[1])}\n"
    return text


def first_bad_line(text, allowed, needed):
    """The line that BadLine tells, None for a good text: allowed are the lines that can stand at each place."""
    lines = text.split("\n")
    if lines.pop() != "":
        return len(lines)
    for at, line in enumerate(lines):
        if at >= len(allowed) or line not in allowed[at]:
            return at
    return len(lines) if len(lines) < needed else None


@lru_cache(maxsize=None)
def house_lines(many):
    """The lines that can stand at each place of the text of a house, of so many lines."""
    some = lots(min(many, 7))[1:]
    return [{f"clerk {clerk} looks at {words(lot)}" for lot in some} for clerk in range(min(many, 7))]


@lru_cache(maxsize=None)
def rules_lines(house, signs):
    """Likewise for rules of a house, signs being those that the first line tells."""
    return [{"signs 2", "signs 3"}] + [
        {f"clerk {clerk} writes {words(table)}" for table in product(range(signs), repeat=signs ** len(row))}
        for clerk, row in enumerate(house)]


@lru_cache(maxsize=None)
def nights_lines(many, signs):
    """Likewise for nights of a house of so many clerks."""
    return [{night_words(pairs) for pairs in nights(many, signs, many)}] * 200
