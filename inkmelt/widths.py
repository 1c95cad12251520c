"""Widths: how wide a set row is, and how far right the carets of its places stand."""

from inkmelt.cases import NEARS, WIDTHS
from inkmelt.setting import FROM, TO, chains, set_row, shapes_of

USUAL_WIDTH = 10

# Where the parts of a span lie in it.
BEGIN = 0
END = 1


def width(case, row):
    return whole_width(spans(case, set_row(case, row)))


def carets(case, row):
    slots = set_row(case, row)
    found = spans(case, slots)
    told = []
    at = 0
    for bundle in chains(slots):
        own = found[at:at + len(bundle)]
        told.extend(shares(own[0][BEGIN], own[-1][END], bundle[0][TO] - bundle[0][FROM]))
        at += len(bundle)
    told.append(whole_width(found))
    return told


# A tuple (begin, end) for each shape, counted from where the first one begins. Both are
# needed, since nears keep the next shape from beginning just where one ends.
def spans(case, slots):
    shapes = shapes_of(slots)
    found = []
    begin = 0
    for at, shape in enumerate(shapes):
        if at > 0:
            begin = found[-1][END] + near_of(case, shapes[at - 1], shape)
        found.append((begin, begin + width_of(case, shape)))
    return found


def whole_width(found):
    return found[-1][END] if len(found) > 0 else 0


def shares(begin, end, letters):
    return [begin + number * (end - begin) // letters for number in range(letters)]


def width_of(case, shape):
    return case[WIDTHS].get(shape, USUAL_WIDTH)


def near_of(case, shape, follower):
    return case[NEARS].get((shape, follower), 0)
