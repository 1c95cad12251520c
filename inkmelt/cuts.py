"""Cuts: the places of a row that nothing goes across, and what bars the others."""

from inkmelt.cases import AHEAD, BEHIND, PASSES, TAKE
from inkmelt.errors import NoPlace
from inkmelt.setting import FROM, SHAPE, TO, doings, rows_along, shapes_of
from inkmelt.widths import near_of


def cuts(case, row):
    barred = bars(case, row)
    return [place for place in range(1, len(row)) if place not in barred]


def bar(case, row, place):
    if not 1 <= place < len(row):
        raise NoPlace(f"no place amid the letters: {place}")
    return bars(case, row).get(place)


# What bars each place that is no cut, in a dict. Doings are gone through pass by pass
# and nears behind them, so what comes first to a place stays.
def bars(case, row):
    found = {}
    rows = rows_along(case, row)
    for turn, rules in enumerate(case[PASSES]):
        for at, number in doings(rules, shapes_of(rows[turn])):
            for place in places_across(rules[number], rows[turn], at):
                found.setdefault(place, ("rule", turn, at, number))
    slots = rows[-1]
    for at in range(len(slots) - 1):
        if is_near_across(case, slots[at], slots[at + 1]):
            found.setdefault(slots[at][TO], ("near", at))
    return found


def places_across(rule, slots, at):
    first = at - len(rule[BEHIND])
    last = at + len(rule[TAKE]) + len(rule[AHEAD]) - 1
    return list(range(slots[first][FROM] + 1, slots[last][TO]))


# A near within a bundle goes across no place: the letters of both shapes are the same.
def is_near_across(case, slot, follower):
    return slot[TO] == follower[FROM] and near_of(case, slot[SHAPE], follower[SHAPE]) != 0
