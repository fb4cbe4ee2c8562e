"""Logs of what is told, taken back, seen, turned and lost, and the runs of rows that go on as they tell."""

from middlerows.errors import BadAt, BadLog
from middlerows.flips import flip
from middlerows.kinds import all_wants, has_wants, is_integer, is_pair, is_place, is_row, is_rule, is_want
from middlerows.rules import check_rules, rows_of, rules_from

MOST_ENTRIES = 12
MOST_LOST = 4


def is_entry(many, value):
    if not is_pair(value):
        return value == ("lost",)
    word, what = value
    if word == "told" or word == "back":
        return is_rule(many, what)
    if word == "seen":
        return is_want(many, what)
    return word == "turned" and is_place(many, what)


def can_stand(told, lost, entry):
    """Whether an entry can stand behind so many lost flips, with these rules told and not taken back."""
    if entry[0] == "told":
        return entry[1] not in told
    if entry[0] == "back":
        return entry[1] in told
    return entry[0] != "lost" or lost < MOST_LOST


def told_behind(told, entry):
    """The rules that are told behind an entry, by those ahead of it."""
    if entry[0] == "told":
        return told + [entry[1]]
    if entry[0] == "back":
        return [rule for rule in told if rule != entry[1]]
    return told


def first_wrong_entry(many, log):
    """The index of the first thing that is no entry, or cannot stand there, or None."""
    told, lost = [], 0
    for index, entry in enumerate(log):
        if not is_entry(many, entry) or not can_stand(told, lost, entry):
            return index
        told = told_behind(told, entry)
        if entry[0] == "lost":
            lost += 1
    return None


def check_log(rules, log):
    check_rules(rules)
    if not isinstance(log, tuple) or len(log) > MOST_ENTRIES:
        raise BadLog(None)
    index = first_wrong_entry(rules.many, log)
    if index is not None:
        raise BadLog(index)


def rows_led(entry, row):
    """The rows that can stand behind an entry if a row stands ahead of it, whichever rules are told."""
    if entry[0] == "seen":
        return [row] if has_wants(row, [entry[1]]) else []
    if entry[0] == "turned":
        return [flip(row, entry[1])]
    if entry[0] == "lost":
        return [flip(row, place) for place in range(len(row))]
    return [row]


def kept_lots(rules, log):
    """The rows that keep the rules at first, and then, behind each entry, those that keep all that are told, too."""
    check_log(rules, log)
    told = []
    lots = [{row: True for row in rows_of(rules)}]
    for entry in log:
        told = told_behind(told, entry)
        rows = rows_of(rules_from(rules.many, list(rules.rules) + told))
        lots.append({row: True for row in rows})
    return lots


def run_counts(rules, log):
    """At first, and behind each entry: for each row in which runs of the entries so far end, how many do."""
    lots = kept_lots(rules, log)
    counts = [{row: 1 for row in lots[0]}]
    for entry, lot in zip(log, lots[1:]):
        later = {}
        for row in counts[-1]:
            for led in rows_led(entry, row):
                if led in lot:
                    later[led] = later.get(led, 0) + counts[-1][row]
        counts.append(later)
    return counts


def lots_going_on(rules, log):
    """At first, and behind each entry: the rows, ascending, from which runs of the entries to come go on."""
    lots = kept_lots(rules, log)
    found = [lots[-1]]
    for entry, lot in reversed(list(zip(log, lots))):
        behind = found[-1]
        found.append({row: True for row in lot if any([led in behind for led in rows_led(entry, row)])})
    return found[::-1]


def rows_behind(rules, log):
    return sorted(list(run_counts(rules, log)[-1]))


def start_rows(rules, log):
    return sorted(list(lots_going_on(rules, log)[0]))


def count_runs(rules, log):
    counts = run_counts(rules, log)[-1]
    return sum([counts[row] for row in counts])


def first_run(rules, log):
    lots = lots_going_on(rules, log)
    if not lots[0]:
        return None
    run = [min(list(lots[0]))]
    for entry, lot in zip(log, lots[1:]):
        # Some row goes on from each row of these lots, so the least one can always be taken.
        run.append(min([led for led in rows_led(entry, run[-1]) if led in lot]))
    return tuple(run)


def log_against(rules, log):
    for index, counts in enumerate(run_counts(rules, log)):
        if not counts:
            return index - 1
    return None


def shows_run(rules, log, value):
    lots = kept_lots(rules, log)
    if not isinstance(value, tuple) or len(value) != len(lots):
        return False
    for row, lot in zip(value, lots):
        if not is_row(rules.many, row) or row not in lot:
            return False
    for index, entry in enumerate(log):
        if value[index + 1] not in rows_led(entry, value[index]):
            return False
    return True


def sure_at(rules, log, index):
    check_log(rules, log)
    if not is_integer(index) or not 0 <= index <= len(log):
        raise BadAt("this is no index of a row of a run")
    counts = run_counts(rules, log)[index]
    rows = [row for row in lots_going_on(rules, log)[index] if row in counts]
    if not rows:
        return None
    return tuple([want for want in all_wants(rules.many) if all([has_wants(row, [want]) for row in rows])])


def doubted(rules, log):
    lots = kept_lots(rules, log)
    # For each row: how many entries that were seen a run that ends in it is against, as few as can be, and which.
    doubts = {row: (0, ()) for row in lots[0]}
    for index, entry in enumerate(log):
        if entry[0] == "seen":
            doubts = {row: doubt_behind(doubts[row], index, rows_led(entry, row)) for row in doubts}
        else:
            doubts = least_doubts(doubts, entry, lots[index + 1])
    if not doubts:
        return None
    return min([doubts[row] for row in doubts])[1]


def doubt_behind(doubt, index, led):
    """The doubt behind an entry that was seen, which leads to no row if it is doubted."""
    many, indexes = doubt
    if led:
        return doubt
    return (many + 1, indexes + (index,))


def least_doubts(doubts, entry, lot):
    """For each row of a lot to which an entry leads the least doubt of the rows from which it does."""
    later = {}
    for row in doubts:
        for led in rows_led(entry, row):
            if led in lot:
                later[led] = min(later.get(led, doubts[row]), doubts[row])
    return later
