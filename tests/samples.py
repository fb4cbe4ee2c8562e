"""Values for the tests: all small Rules, some larger ones, some lots, and values of other kinds."""

import random
from itertools import permutations, product

from middlerows.rules import Rules
from tests import slow

# Nothing of this is a row, want, rule, place, walk or Rules, nor a tuple of such, but for ().
OTHER_KINDS = (None, True, False, 9, -1, "", "row", [], {}, {"row": (0, 0)}, ((),), (None,), [(0, 0)], 10 ** 30)


def all_small_rules():
    """All Rules of one place and of two."""
    return [Rules(many, some) for many in (1, 2) for some in slow.subsets(slow.rules_of_places(many))]


def some_rules(many, how_many, most, seed=1):
    """So many Rules of some places, of at most so many rules each: the same ones in each run."""
    chance = random.Random(1000 * many + seed)
    every = slow.rules_of_places(many)
    found = []
    for _ in range(how_many):
        size = chance.randrange(min(most, len(every)) + 1)
        found.append(Rules(many, tuple(sorted(chance.sample(every, size)))))
    return found


def tied_rules(many, how_many, seed=1):
    """So many Rules that tie one or two places to others, some with one rule more: the same ones in each run."""
    chance = random.Random(6000 * many + seed)
    found = []
    for _ in range(how_many):
        some = set(chance.sample(slow.rules_of_places(many), chance.randrange(2)))
        for _ in range(chance.randrange(1, 3)):
            one, other = sorted(chance.sample(range(many), 2))
            value = chance.randrange(2)
            some |= {((one, 0), (other, value)), ((one, 1), (other, 1 - value))}
        found.append(Rules(many, tuple(sorted(some))))
    return found


def many_rules():
    """Rules of one to five places, of few rules and of many."""
    found = all_small_rules()
    found += some_rules(3, 120, 7) + some_rules(3, 15, 18) + some_rules(4, 60, 9) + some_rules(5, 20, 11)
    return found


def few_rules():
    """Like many_rules, but few enough for answers that take long."""
    return all_small_rules()[::7] + some_rules(3, 40, 7, seed=2) + some_rules(4, 15, 8, seed=2)


def wide_rules():
    """Rules of 8 places."""
    return [Rules(8, ()), Rules(8, tuple(slow.rules_of_places(8)))] + some_rules(8, 6, 14)


def nobodys_rules():
    """Rules that no row keeps."""
    return [
        Rules(1, (((0, 0), (0, 0)), ((0, 1), (0, 1)))),
        Rules(2, (((0, 0), (0, 0)), ((0, 1), (1, 0)), ((0, 1), (1, 1)))),
        Rules(2, (((0, 0), (1, 0)), ((0, 0), (1, 1)), ((0, 1), (1, 0)), ((0, 1), (1, 1)))),
        Rules(3, tuple(slow.rules_of_places(3))),
        Rules(8, (((6, 0), (6, 0)), ((6, 1), (7, 0)), ((6, 1), (7, 1)))),
    ]


def some_lots(many, how_many, most, seed=1):
    """So many lots of rows of some places, of at most so many rows each: the same ones in each run."""
    chance = random.Random(2000 * many + seed)
    every = slow.rows(many)
    return [
        tuple(sorted(chance.sample(every, 1 + chance.randrange(min(most, len(every))))))
        for _ in range(how_many)]


def many_lots():
    """All lots of one to three places, and some of four."""
    return [lot for many in (1, 2, 3) for lot in slow.all_lots(many)] + some_lots(4, 60, 9) + some_lots(4, 10, 16)


def few_lots():
    """Like many_lots, but few enough for answers that take long."""
    return slow.all_lots(1) + slow.all_lots(2) + slow.all_lots(3)[::5] + some_lots(4, 20, 9, seed=2)


def wide_lots():
    """Lots of rows of 8 places."""
    return [((0,) * 8,), ((1,) * 8,), tuple(slow.rows(8))] + some_lots(8, 8, 6)


def changed(value):
    """Values like one made of tuples, words and integers, but changed in one thing, or of another kind."""
    yield from (None, [value])
    if isinstance(value, tuple):
        yield list(value)
        yield value + (None,)
        for at, thing in enumerate(value):
            yield value[:at] + value[at + 1:]
            yield value[:at] + (thing,) + value[at:]
            yield value[:at] + value[at:][::-1]
            for other in changed(thing):
                yield value[:at] + (other,) + value[at + 1:]
    elif isinstance(value, int):
        yield from (bool(value), str(value), value + 1, value - 1, 1 - value, (value,), 10 ** 30)
    else:
        yield from ("", value + "s", value.upper())


def some_turns(many, how_many, seed=1):
    """So many turns of some places: the same ones in each run."""
    chance = random.Random(3000 * many + seed)
    found = []
    for _ in range(how_many):
        places = chance.sample(range(many), many)
        found.append(tuple((place, chance.choice(("first", "second"))) for place in places))
    return found


def all_turns(many):
    owners = list(product(("first", "second"), repeat=many))
    return [tuple(zip(places, some)) for places in permutations(range(many)) for some in owners]


def some_prices(many, how_many, seed=1):
    """So many prices of some places, many of them at the ends or 0: the same ones in each run."""
    chance = random.Random(4000 * many + seed)
    found = []
    for _ in range(how_many):
        found.append(tuple(
            chance.choice((-50, 0, 50, chance.randrange(-50, 51), chance.randrange(-3, 4))) for _ in range(many)))
    return found


def some_payments(many, how_many, seed=1):
    """So many payments of some rules: the same ones in each run."""
    chance = random.Random(5000 * many + seed)
    tops = [chance.choice((3, 60, 1000)) for _ in range(how_many)]
    return [tuple(chance.randrange(top + 1) for _ in range(many)) for top in tops]


def every_tables(many):
    """All tables of some places: for each two of them no picture, or one with any of the four pairs."""
    pairs = list(slow.subsets(list(product((0, 1), repeat=2))))
    found = []
    for some in product([None] + pairs, repeat=len(slow.place_pairs(many))):
        pictures = zip(slow.place_pairs(many), some)
        found.append(tuple((one, other, let) for (one, other), let in pictures if let is not None))
    return found


def some_tables(many, how_many, seed=1):
    """So many tables of some places, most pictures of three pairs or four: the same ones in each run."""
    chance = random.Random(7000 * many + seed)
    pairs = list(product((0, 1), repeat=2))
    found = []
    for _ in range(how_many):
        tables = []
        for one, other in slow.place_pairs(many):
            size = chance.choice((None, None, 0, 1, 2, 2, 3, 3, 3, 3, 4, 4) if many < 5 else (None,) * 6 + (2, 3, 3, 4))
            if size is not None:
                tables.append((one, other, tuple(sorted(chance.sample(pairs, size)))))
        found.append(tuple(tables))
    return found


def many_tables():
    """Pairs of how many places, and tables of them: all of one place and two, some of three to five."""
    found = [(many, tables) for many in (1, 2) for tables in every_tables(many)]
    found += [(3, tables) for tables in every_tables(3)[::23]]
    return found + [(many, tables) for many in (3, 4, 5) for tables in some_tables(many, 60)]


def few_tables():
    """Like many_tables, but few enough for answers that take long."""
    return many_tables()[::4]


def wide_tables():
    """Pairs of 8 places and tables of them."""
    full = slow.filled(8, ())
    return [(8, ()), (8, full), (8, tuple((one, other, ()) for one, other, _ in full))] + [
        (8, tables) for tables in some_tables(8, 4)]


# Tables of three places would follow, but for one thing each: with the index that tells where.
TABLES = ((0, 1, ((0, 0), (0, 1), (1, 1))), (1, 2, ((0, 1), (1, 0))))
BAD_TABLES = [(value, None) for value in OTHER_KINDS if not isinstance(value, tuple)] + [
    (list(TABLES), None), ("tables", None), ({0: TABLES[0]}, None), (1, None), (((),), 0), ((None,), 0),
    (TABLES[::-1], 1), (TABLES + TABLES[1:], 2), (TABLES + TABLES, 2), (TABLES[:1] + TABLES[:1], 1),
    (TABLES + ((1, 2, ((0, 0),)),), 2), (TABLES + ((0, 2, ((0, 0),)),), 2), (TABLES + (None,), 2),
    ((TABLES[0], list(TABLES[1])), 1), ((TABLES[0], TABLES[1][:2]), 1), ((TABLES[0], TABLES[1] + ((),)), 1),
    (((0, 3, ()),), 0), (((-1, 1, ()),), 0), (((1, 0, ()),), 0), (((1, 1, ()),), 0), (((0, True, ()),), 0),
    (((False, 1, ()),), 0), (((0, "1", ()),), 0), (((None, 1, ()),), 0), (((0, (1,), ()),), 0),
    (((0, 10 ** 30, ()),), 0),
    (((0, 1, None),), 0), (((0, 1, [(0, 0)]),), 0), (((0, 1, {}),), 0), (((0, 1, "01"),), 0), (((0, 1, (0, 0)),), 0),
    (((0, 1, ((0, 1), (0, 0))),), 0), (((0, 1, ((0, 0), (0, 0))),), 0), (((0, 1, ((0, 2),)),), 0),
    (((0, 1, ((0, True),)),), 0), (((0, 1, ((False, 0),)),), 0), (((0, 1, ((0,),)),), 0), (((0, 1, ((0, 0, 0),)),), 0),
    (((0, 1, ([0, 0],)),), 0), (((0, 1, ((0, None),)),), 0), (((0, 1, ((0, -1),)),), 0), (((0, 1, ("00",)),), 0),
    ((TABLES[0], (1, 2, ((0, 0), (1, 2)))), 1), ((TABLES[0], (1, 3, ())), 1), ((TABLES[0], (0, 1, ()), None), 1)]
BAD_MANY = tuple(value for value in OTHER_KINDS if value is not None) + (None, 0, 10, -8, "3", (3,), [3], 3 * (1,))


def some_log(chance, many, length):
    """A log of so many entries at the most, of all kinds."""
    log, told, lost = [], [], 0
    for _ in range(length):
        word = chance.choice(("told", "told", "back", "seen", "seen", "seen", "turned", "turned", "lost"))
        if word == "told":
            rule = chance.choice(slow.rules_of_places(many))
            if rule not in told:
                told.append(rule)
                log.append(("told", rule))
        elif word == "back" and told:
            log.append(("back", told.pop(chance.randrange(len(told)))))
        elif word == "seen":
            log.append(("seen", chance.choice(slow.wants(many))))
        elif word == "turned":
            log.append(("turned", chance.randrange(many)))
        elif word == "lost" and lost < 4:
            lost += 1
            log.append(("lost",))
    return tuple(log)


def some_logs(many, how_many, seed=1):
    """So many pairs of Rules and a log: the same ones in each run."""
    chance = random.Random(8000 * many + seed)
    return [
        (rules, some_log(chance, many, chance.choice((0, 1, 2, 3, 4, 5, 6, 8, 10, 12))))
        for rules in some_rules(many, how_many, 3, seed=seed + 20)]


def many_logs():
    return some_logs(1, 60) + some_logs(2, 150) + some_logs(3, 120) + some_logs(4, 25)


def some_votes(rules, how_many, numbers, seed=1):
    """So many votes, in such numbers of rows that keep rules: the same ones in each run."""
    chance = random.Random(9000 * rules.many + len(rules.rules) + seed)
    rows = slow.kept(rules.many, rules.rules)
    return [tuple(chance.choice(rows) for _ in range(chance.choice(numbers))) for _ in range(how_many)]


def rules_with_rows():
    """Rules that some rows keep, of one place to four."""
    some = all_small_rules()[::9] + some_rules(3, 30, 5, seed=15) + some_rules(4, 15, 5, seed=15)
    some += tied_rules(3, 8, seed=15) + [Rules(3, ()), Rules(4, ())]
    return [rules for rules in some if slow.kept(rules.many, rules.rules)]
