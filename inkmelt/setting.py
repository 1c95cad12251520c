"""Setting: what a pass does along a row of shapes, and the row that all passes leave.

A slot is a tuple (shape, from, to): a shape with the letters of which it comes.
"""

from inkmelt.cases import AHEAD, BEHIND, GIVE, PASSES, TAKE

# Where the parts of a slot lie in it.
SHAPE = 0
FROM = 1
TO = 2


def doings(rules, shapes):
    done = []
    at = 0
    while at < len(shapes):
        number = first_that_fits(rules, shapes, at)
        if number is None:
            at += 1
        else:
            done.append((at, number))
            at += len(rules[number][TAKE])
    return done


def passed(rules, shapes):
    return shapes_of(passed_slots(rules, first_slots(shapes)))


def set_row(case, row):
    return rows_along(case, row)[-1]


# One row of slots for each pass, the one with which it begins, and behind them the set row.
def rows_along(case, row):
    rows = [first_slots(row)]
    for rules in case[PASSES]:
        rows.append(melted(passed_slots(rules, rows[-1])))
    return rows


def first_that_fits(rules, shapes, at):
    for number, rule in enumerate(rules):
        if fits(rule, shapes, at):
            return number
    return None


# A rule without a take fits nowhere: a pass that went on behind it would never end.
def fits(rule, shapes, at):
    behind = rule[BEHIND]
    take = rule[TAKE]
    if len(take) == 0 or not stands(take, shapes, at):
        return False
    return stands(behind, shapes, at - len(behind)) and stands(rule[AHEAD], shapes, at + len(take))


# A place below 0 is asked for by itself, since a slice would count it from the row's end.
def stands(part, shapes, at):
    return at >= 0 and tuple(shapes[at:at + len(part)]) == part


def first_slots(row):
    return [(letter, place, place + 1) for place, letter in enumerate(row)]


def passed_slots(rules, slots):
    new = []
    reached = 0
    for at, number in doings(rules, shapes_of(slots)):
        new.extend(slots[reached:at])
        reached = at + len(rules[number][TAKE])
        new.extend(all_of(rules[number][GIVE], slots[at:reached]))
    new.extend(slots[reached:])
    return new


def melted(slots):
    new = []
    for chain in chains(slots):
        new.extend(all_of(shapes_of(chain), chain))
    return new


# Shapes that overlap in a chain always stand side by side, and the last one of them
# reaches farthest, since neither froms nor tos ever fall along a row. The chains of a
# set row are its bundles.
def chains(slots):
    found = []
    for slot in slots:
        if len(found) > 0 and slot[FROM] < found[-1][-1][TO]:
            found[-1].append(slot)
        else:
            found.append([slot])
    return found


def all_of(shapes, slots):
    return [(shape, slots[0][FROM], slots[-1][TO]) for shape in shapes]


def shapes_of(slots):
    return [slot[SHAPE] for slot in slots]
