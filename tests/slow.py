"""Slow answers for the tests: all rows, all rules and all wants one by one, as the points define them.

Nothing here imports the package, so a fault of the package is not shared by what it is tested against.
"""

from itertools import combinations, combinations_with_replacement, product


def rows(many):
    return sorted(product((0, 1), repeat=many))


def wants(many):
    return sorted(product(range(many), (0, 1)))


def opposite(want):
    return (want[0], 1 - want[1])


def rules_of_places(many):
    pairs = combinations_with_replacement(wants(many), 2)
    return [pair for pair in pairs if pair[0] != opposite(pair[1])]


def has(row, want):
    return row[want[0]] == want[1]


def keeps_rule(row, rule):
    return has(row, rule[0]) or has(row, rule[1])


def kept(many, rules):
    return [row for row in rows(many) if all(keeps_rule(row, rule) for rule in rules)]


def follows(many, rules, rule):
    return all(keeps_rule(row, rule) for row in kept(many, rules))


def steps(rules):
    """All pairs (one, other) such that some rule leads from one to other by one step."""
    return {(opposite(rule[at]), rule[1 - at]) for rule in rules for at in (0, 1)}


def walks_of_length(many, rules, length):
    """All walks of so many wants, by lengthening all shorter ones."""
    walks = [(want,) for want in wants(many)]
    pairs = steps(rules)
    for _ in range(length - 1):
        walks = [walk + (want,) for walk in walks for want in wants(many) if (walk[-1], want) in pairs]
    return walks


def reaches(many, rules):
    """All pairs (one, other) such that a walk leads from one to other."""
    pairs = {(want, want) for want in wants(many)} | steps(rules)
    while True:
        longer = {(a, d) for a, b in pairs for c, d in pairs if b == c}
        if longer <= pairs:
            return pairs
        pairs |= longer


def rings(many, rules):
    """The smallest lots of wants, among all lots, that are whole: all rings are wants that lead to one another."""
    pairs = reaches(many, rules)
    found = set()
    for want in wants(many):
        found.add(tuple(w for w in wants(many) if (want, w) in pairs and (w, want) in pairs))
    return sorted(found)


def is_walk(many, rules, value, one, other):
    if value[0] != one or value[-1] != other:
        return False
    return all(pair in steps(rules) for pair in zip(value, value[1:]))


def subsets(things):
    for size in range(len(things) + 1):
        yield from combinations(things, size)


def middle(one, other, third):
    return tuple(1 if a + b + c >= 2 else 0 for a, b, c in zip(one, other, third))


def laps(lot):
    """The laps of a lot: middles of all threes of the laps ahead, perhaps alike rows."""
    found = [tuple(lot)]
    while True:
        ahead = [row for lap in found for row in lap]
        middles = {middle(*three) for three in product(ahead, repeat=3)}
        lap = tuple(sorted(middles - set(ahead)))
        if not lap:
            return found
        found.append(lap)


def closed(lot):
    return tuple(sorted(row for lap in laps(lot) for row in lap))


def pictures(lot, one, other):
    return {(row[one], row[other]) for row in lot}


def by_pictures(lot):
    places = range(len(lot[0]))
    return tuple(
        row for row in rows(len(lot[0]))
        if all((row[one], row[other]) in pictures(lot, one, other) for one in places for other in places))


def rules_told(lot):
    return tuple(rule for rule in rules_of_places(len(lot[0])) if all(keeps_rule(row, rule) for row in lot))


def all_lots(many):
    return [lot for lot in subsets(rows(many)) if lot]


def fewest_by_rows(many):
    """For each tuple of rows that some rules keep alone such rules, as few as can be, by laying one more to all."""
    found = {tuple(rows(many)): ()}
    lap = list(found)
    while lap:
        later = []
        for some in lap:
            for rule in rules_of_places(many):
                less = tuple(row for row in some if keeps_rule(row, rule))
                if less not in found:
                    found[less] = found[some] + (rule,)
                    later.append(less)
        lap = later
    return found


def all_following(many, rules):
    return tuple(rule for rule in rules_of_places(many) if follows(many, rules, rule))


def others(rules, rule):
    return tuple(other for other in rules if other != rule)


def is_lean(many, rules):
    return not any(follows(many, others(rules, rule), rule) for rule in rules)


def sure(many, rules):
    return [want for want in wants(many) if all(has(row, want) for row in kept(many, rules))]


def fewest_parts(many, rules):
    """Point 19 word by word: rings of two wants that lead to each other by a rule that follows."""
    if not kept(many, rules):
        return None
    settled = sure(many, rules)
    free = [want for want in wants(many) if want[0] not in [place for place, _ in settled]]
    one_step = steps(all_following(many, rules))
    led = {(one, other) for one in free for other in free if one == other or (one, other) in one_step}
    whole = {frozenset(other for other in free if {(want, other), (other, want)} <= led) for want in free}
    in_rings = sum(len(ring) for ring in whole if len(ring) > 1)

    def leads(one, other):
        return one != other and any((a, b) in led for a in one for b in other)

    between = 0
    for one, other in product(whole, whole):
        if leads(one, other) and not any(leads(one, third) and leads(third, other) for third in whole):
            between += 1
    return (len(settled), in_rings // 2, between // 2)


def told_lots(many):
    """All wants that can be told: ascending tuples of wants of unlike places."""
    found = []
    for gaps in product((None, 0, 1), repeat=many):
        found.append(tuple((place, value) for place, value in enumerate(gaps) if value is not None))
    return sorted(found)


def left(many, rules, told):
    return [row for row in kept(many, rules) if all(has(row, want) for want in told)]


def open_places(many, some):
    return [place for place in range(many) if len({row[place] for row in some}) == 2]


def apart(one, other):
    return sum(1 for a, b in zip(one, other) if a != b)


def halves_by(some, place):
    """The rows of some with 0 at a place, and those with 1."""
    return tuple(tuple(row for row in some if row[place] == value) for value in (0, 1))


def least_depth(many, some):
    """The least depth of a plan for some rows, by trying all questions."""
    if len(some) == 1:
        return 0
    return min(
        1 + max(least_depth(many, half) for half in halves_by(some, place)) for place in open_places(many, some))


def all_plans(many, some):
    """All plans for some rows, as pairs (depth, plan)."""
    if len(some) == 1:
        return [(0, ("row", some[0]))]
    found = []
    for place in open_places(many, some):
        zeros, ones = halves_by(some, place)
        for (deep, plan), (deeper, other) in product(all_plans(many, zeros), all_plans(many, ones)):
            found.append((1 + max(deep, deeper), (place, plan, other)))
    return found


def winner(rules_kept, turns, values):
    """Who wins from some values of the first turns, by playing all plays."""
    if len(values) == len(turns):
        row = [None] * len(turns)
        for (place, _), value in zip(turns, values):
            row[place] = value
        return "first" if tuple(row) in rules_kept else "second"
    owner = turns[len(values)][1]
    ends = [winner(rules_kept, turns, values + (value,)) for value in (0, 1)]
    return owner if owner in ends else ends[0]


def ahead_of(turns):
    """For each place of the first player, ascending, the second player's places ahead of it in the turns."""
    found = {}
    for index, (place, owner) in enumerate(turns):
        if owner == "first":
            found[place] = [other for other, player in turns[:index] if player == "second"]
    return {place: found[place] for place in sorted(found)}


def all_answers(turns):
    choices = []
    for place, others in ahead_of(turns).items():
        choice = [(place, "is", 0), (place, "is", 1)]
        choice += [(place, word, other) for word in ("as", "not") for other in others]
        choices.append(choice)
    return list(product(*choices))


def rows_by_answers(turns, answers):
    """The rows that come of answers, whatever the second player does."""
    seconds = [place for place, owner in turns if owner == "second"]
    found = []
    for values in product((0, 1), repeat=len(seconds)):
        at = dict(zip(seconds, values))
        for place, word, told in answers:
            at[place] = told if word == "is" else at[told] if word == "as" else 1 - at[told]
        found.append(tuple(at[place] for place in sorted(at)))
    return found


def winning_answers(rules_kept, turns):
    return [some for some in all_answers(turns) if set(rows_by_answers(turns, some)) <= set(rules_kept)]


def flips(some, row, locked=()):
    """The rows of some to which one flip leads from a row, ascending."""
    places = [place for place in range(len(row)) if place not in locked]
    return sorted(other for other in some if other != row and apart(row, other) == 1 and any(
        row[place] != other[place] for place in places))


def shortest_ways(some, one, other, locked=()):
    """All shortest ways from one row to another one through some rows, by lengthening all that meet no row twice."""
    ways = [(one,)]
    while ways:
        found = [way for way in ways if way[-1] == other]
        if found:
            return sorted(found)
        ways = [way + (row,) for way in ways for row in flips(some, way[-1], locked) if row not in way]
    return []


def all_cubes(some, many):
    """For each lot of places all cubes of it, as frozen sets of rows."""
    found = {}
    for places in subsets(range(many)):
        found[places] = set()
        for row in some:
            cube = set()
            for values in product((0, 1), repeat=len(places)):
                at = dict(zip(places, values))
                cube.add(tuple(at.get(place, row[place]) for place in range(many)))
            if cube <= set(some):
                found[places].add(frozenset(cube))
    return found


def price(prices, row):
    return sum(cost * value for cost, value in zip(prices, row))


def half_rows(many, rules):
    """All half rows that keep rules."""
    def halves(value, want):
        return value[want[0]] if want[1] == 1 else 2 - value[want[0]]
    return [
        value for value in product((0, 1, 2), repeat=many)
        if all(halves(value, one) + halves(value, other) >= 2 for one, other in rules)]


def bound(many, rules, prices, payments):
    def gets(want):
        return sum(payment * rule.count(want) for rule, payment in zip(rules, payments))
    taken = [max(gets((place, 0)), gets((place, 1)) - 2 * prices[place]) for place in range(many)]
    return sum(payments) - sum(taken)


def least_half_rows(many, rules, prices):
    """All half rows that keep rules and cost the least, ascending."""
    found = half_rows(many, rules)
    least = min(price(prices, halves) for halves in found)
    return sorted(halves for halves in found if price(prices, halves) == least)


def whole(halves):
    """The wants that have 2 halves in a half row."""
    return [(place, many // 2) for place, many in enumerate(halves) if many != 1]


def broken(row, rules):
    return [rule for rule in rules if not keeps_rule(row, rule)]


def least_left_out(many, rules):
    """By all lots of rules, the smallest ones first."""
    for some in subsets(rules):
        if kept(many, [rule for rule in rules if rule not in some]):
            return some
    return None


def place_pairs(many):
    return [(one, other) for one in range(many) for other in range(many) if one < other]


def rows_fitting(many, tables):
    return [row for row in rows(many) if all((row[one], row[other]) in pairs for one, other, pairs in tables)]


def filled(many, tables):
    full = {places: ((0, 0), (0, 1), (1, 0), (1, 1)) for places in place_pairs(many)}
    full.update({(one, other): pairs for one, other, pairs in tables})
    return tuple((one, other, full[one, other]) for one, other in sorted(full))


def lets(tables, one, other, first, second):
    """Whether full tables let a value of one place with a value of another one."""
    for lesser, greater, pairs in tables:
        if (lesser, greater) == (one, other) and (first, second) in pairs:
            return True
        if (lesser, greater) == (other, one) and (second, first) in pairs:
            return True
    return False


def lacks(many, full):
    """All (one, other, pair, third) such that a pair that full tables let lacks at a third place."""
    found = []
    for one, other in place_pairs(many):
        for first, second in product((0, 1), repeat=2):
            for third in range(many):
                if third in (one, other) or not lets(full, one, other, first, second):
                    continue
                values = [
                    value for value in (0, 1)
                    if lets(full, one, third, first, value) and lets(full, other, third, second, value)]
                if not values:
                    found.append((one, other, (first, second), third))
    return found


def without_pairs(tables, gone):
    """Tables without some (one, other, pair)."""
    return tuple(
        (one, other, tuple(pair for pair in pairs if (one, other, pair) not in gone)) for one, other, pairs in tables)


def table_laps(many, tables):
    left = filled(many, tables)
    laps = []
    while lacks(many, left):
        laps.append(tuple(sorted({lack[:3] for lack in lacks(many, left)})))
        left = without_pairs(left, laps[-1])
    return laps


def closed_tables(many, tables):
    gone = [thing for lap in table_laps(many, tables) for thing in lap]
    return without_pairs(filled(many, tables), gone)


def parts(many):
    """All parts of rows."""
    return list(product((None, 0, 1), repeat=many))


def goes_with(row, part):
    return all(known in (None, value) for known, value in zip(part, row))


def stands(tables, part):
    """Point 47 word by word: first each place for itself, then each two places."""
    for place, value in enumerate(part):
        for one, other, pairs in tables:
            if value is not None and one == place and value not in [first for first, _ in pairs]:
                return False
            if value is not None and other == place and value not in [second for _, second in pairs]:
                return False
    return all(
        part[one] is None or part[other] is None or (part[one], part[other]) in pairs for one, other, pairs in tables)


def kept_tables(many, tables, places):
    """The full tables of some places, counted anew, of the pairs there of all rows that fit."""
    found = {(one, other): set() for one, other in place_pairs(len(places))}
    for row in rows_fitting(many, tables):
        for one, other in found:
            found[one, other].add((row[places[one]], row[places[other]]))
    return tuple((one, other, tuple(sorted(found[one, other]))) for one, other in sorted(found))


def joined_tables(many, one, more, other, shared):
    """By all pairs of values of all two places: which pictures are there, and which pairs all of them let."""
    found = []
    for lesser, greater in place_pairs(many + more - shared):
        pictures = [pairs for first, second, pairs in one if (first, second) == (lesser, greater)]
        pictures += [
            pairs for first, second, pairs in other
            if (first + many - shared, second + many - shared) == (lesser, greater)]
        if pictures:
            let = [pair for pair in product((0, 1), repeat=2) if all(pair in pairs for pairs in pictures)]
            found.append((lesser, greater, tuple(let)))
    return tuple(found)


def goes(entry, one, other):
    """Whether one row can stand ahead of an entry, and other behind it, whichever rules are told."""
    if entry[0] == "lost":
        return apart(one, other) == 1
    if entry[0] == "turned":
        return apart(one, other) == 1 and one[entry[1]] != other[entry[1]]
    return one == other and (entry[0] != "seen" or has(one, entry[1]))


def rules_told_at(rules, log):
    """At first, and behind each entry: the rules, and those that are told and not taken back."""
    told = list(rules)
    found = [list(told)]
    for entry in log:
        if entry[0] == "told":
            told.append(entry[1])
        if entry[0] == "back":
            told.reverse()
            told.remove(entry[1])
            told.reverse()
        found.append(list(told))
    return found


def runs(many, rules, log):
    """All runs of a log, ascending, by lengthening runs by all rows."""
    at = rules_told_at(rules, log)
    found = [(row,) for row in kept(many, at[0])]
    for entry, some in zip(log, at[1:]):
        now = kept(many, some)
        found = [run + (row,) for run in found for row in now if goes(entry, run[-1], row)]
    return sorted(found)


def doubted(many, rules, log):
    """By all lots of entries that were seen, the smallest ones first."""
    seen = [index for index, entry in enumerate(log) if entry[0] == "seen"]
    for some in subsets(seen):
        if runs(many, rules, tuple(entry for index, entry in enumerate(log) if index not in some)):
            return some
    return None


def wants_of_all(some):
    """The wants that all of some rows have."""
    return tuple(want for want in wants(len(some[0])) if all(has(row, want) for row in some))


def most(votes):
    """The row of most of an odd number of votes."""
    return tuple(1 if sum(values) > len(votes) - sum(values) else 0 for values in zip(*votes))


def total(votes, row):
    return sum(apart(vote, row) for vote in votes)


def duel(votes, one, other):
    nearer = [vote for vote in votes if apart(vote, one) < apart(vote, other)]
    nearer_other = [vote for vote in votes if apart(vote, other) < apart(vote, one)]
    return (len(nearer), len(nearer_other))


def beaters(some, votes, row):
    """The rows of some that beat a row."""
    found = []
    for other in some:
        mine, others = duel(votes, row, other)
        if others > mine:
            found.append(other)
    return found


def crossing(some, one, other):
    return {(row[one], row[other]) for row in some} == set(product((0, 1), repeat=2))


def three_cross(many, some):
    """Whether three places cross two by two in some rows."""
    return any(all(crossing(some, *two) for two in combinations(three, 2)) for three in combinations(range(many), 3))


def tied(many, some):
    """Whether two places are tied in some rows: both have both values, alike in all of them, or unlike in all."""
    found = []
    for one, other in place_pairs(many):
        pairs = {(row[one], row[other]) for row in some}
        found.append(pairs == {(0, 0), (1, 1)} or pairs == {(0, 1), (1, 0)})
    return any(found)
