"""Cases, tuples (passes, widths, nears), and how they are looked through."""

from inkmelt.errors import BadNumber, BadRule, BadShape, TooMany

# Where the parts of a case lie in it, and those of a rule.
PASSES = 0
WIDTHS = 1
NEARS = 2
BEHIND = 0
TAKE = 1
AHEAD = 2
GIVE = 3

MOST_PASSES = 4
MOST_RULES = 8
# How many shapes behind, take, ahead and give may have, in this order.
LEAST_SHAPES = (0, 1, 0, 1)
MOST_SHAPES = (3, 4, 3, 3)
MOST_SHAPE = 999
MOST_WIDTH = 1000
MOST_NEAR = 1000


# Each refusal looks through the whole case before the next one does: the kind of
# a fault, not its place, says which fault is told.
def looked(case):
    rules = all_rules(case[PASSES])
    refuse_too_many(case[PASSES])
    refuse_bad_rules(rules)
    refuse_bad_shapes(all_shapes(rules, case[WIDTHS], case[NEARS]))
    refuse_bad_numbers(case[WIDTHS], case[NEARS])
    return len(rules)


def all_rules(passes):
    found = []
    for rules in passes:
        found.extend(rules)
    return found


def all_shapes(rules, widths, nears):
    found = list(widths)
    for pair in nears:
        found.extend(pair)
    for rule in rules:
        for part in rule:
            found.extend(part)
    return found


def refuse_too_many(passes):
    if len(passes) > MOST_PASSES:
        raise TooMany("too many passes")
    for rules in passes:
        if len(rules) > MOST_RULES:
            raise TooMany("too many rules in a pass")


def refuse_bad_rules(rules):
    for rule in rules:
        if not has_right_numbers(rule):
            raise BadRule("a part of a rule has a wrong number of shapes")


def has_right_numbers(rule):
    return all([least <= len(part) <= most for part, least, most in zip(rule, LEAST_SHAPES, MOST_SHAPES)])


def refuse_bad_shapes(shapes):
    for shape in shapes:
        if not 0 <= shape <= MOST_SHAPE:
            raise BadShape(f"no shape: {shape}")


def refuse_bad_numbers(widths, nears):
    for wide in widths.values():
        if not 0 <= wide <= MOST_WIDTH:
            raise BadNumber(f"no width: {wide}")
    for near in nears.values():
        if abs(near) > MOST_NEAR:
            raise BadNumber(f"no near: {near}")
