"""Plain ways to work out what the program tells, and cases to try them on: what the tests of several files need."""

import itertools


def rule(behind, take, ahead, give):
    return (tuple(behind), tuple(take), tuple(ahead), tuple(give))


def done_of(rules, shapes):
    """The doings of a pass, by single shapes and without slices."""
    def found(part, at):
        return all(0 <= at + k < len(shapes) and shapes[at + k] == shape for k, shape in enumerate(part))

    done = []
    free_from = 0
    for at in range(len(shapes)):
        if at < free_from:
            continue
        for number, (behind, take, ahead, _) in enumerate(rules):
            if found(take, at) and found(behind, at - len(behind)) and found(ahead, at + len(take)):
                done.append((at, number))
                free_from = at + len(take)
                break
    return done


def rows_of(passes, row):
    """The rows of all passes and the set row, tuples (shape, set of the letters of which it comes)."""
    shapes = [(letter, {place}) for place, letter in enumerate(row)]
    rows = [shapes]
    for rules in passes:
        done = dict(done_of(rules, [shape for shape, _ in shapes]))
        new = []
        at = 0
        while at < len(shapes):
            if at in done:
                _, take, _, give = rules[done[at]]
                letters = set().union(*[of for _, of in shapes[at:at + len(take)]])
                new.extend((shape, set(letters)) for shape in give)
                at += len(take)
            else:
                new.append((shapes[at][0], set(shapes[at][1])))
                at += 1
        melt(new)
        shapes = new
        rows.append(shapes)
    return rows


def melt(shapes):
    changed = True
    while changed:
        changed = False
        for (_, one), (_, other) in itertools.combinations(shapes, 2):
            if one & other and one != other:
                both = one | other
                one |= both
                other |= both
                changed = True


def slots_of(passes, row):
    """The set row."""
    shapes = rows_of(passes, row)[-1]
    for _, of in shapes:
        assert of == set(range(min(of), max(of) + 1))
    return [(shape, min(of), max(of) + 1) for shape, of in shapes]


def near_of(case, slots, at):
    """The near of the shape at a place of a set row and the one behind it."""
    return case[2].get((slots[at][0], slots[at + 1][0]), 0)


def width_of(case, row):
    slots = slots_of(case[0], row)
    wide = [case[1].get(shape, 10) for shape, _, _ in slots]
    return sum(wide) + sum(near_of(case, slots, at) for at in range(len(slots) - 1))


def carets_of(case, row):
    """Point 8 place by place, each sum anew."""
    slots = slots_of(case[0], row)
    wide = [case[1].get(shape, 10) for shape, _, _ in slots]
    told = []
    for place in range(len(row)):
        inner = [at for at, (_, begin, end) in enumerate(slots) if begin <= place < end]
        _, begin, end = slots[inner[0]]
        left = sum(wide[:inner[0]]) + sum(near_of(case, slots, at) for at in range(inner[0]))
        own = sum(wide[at] for at in inner) + sum(near_of(case, slots, at) for at in inner[:-1])
        told.append(left + (place - begin) * own // (end - begin))
    return told + [width_of(case, row)]


def bar_of(case, row, place):
    """Points 9 and 11 for one place, straight from the sets of letters."""
    rows = rows_of(case[0], row)
    for turn, rules in enumerate(case[0]):
        for at, number in done_of(rules, [shape for shape, _ in rows[turn]]):
            behind, take, ahead, _ = rules[number]
            looked_at = rows[turn][at - len(behind):at + len(take) + len(ahead)]
            if min(looked_at[0][1]) < place < max(looked_at[-1][1]) + 1:
                return ("rule", turn, at, number)
    slots = slots_of(case[0], row)
    for at in range(len(slots) - 1):
        if slots[at][2] == place == slots[at + 1][1] and near_of(case, slots, at) != 0:
            return ("near", at)
    return None


def cuts_of(case, row):
    return [place for place in range(1, len(row)) if bar_of(case, row, place) is None]


def lines_of(case, row, measure):
    """Point 12, each line set by itself."""
    places = cuts_of(case, row) + [len(row)]
    told = []
    begin = 0
    while begin < len(row):
        end = None
        for place in places:
            if place > begin and width_of(case, row[begin:place]) <= measure:
                end = place
        if end is None:
            end = min(place for place in places if place > begin)
        told.append((begin, end))
        begin = end
    return told


class Picker:
    """Picks one of several things after the other, always the same ones in the same order."""

    def __init__(self, state):
        self.state = state

    def below(self, bound):
        self.state = (self.state * 6364136223846793005 + 1442695040888963407) % 2 ** 64
        return (self.state >> 33) % bound

    def shapes(self, least, most, kinds):
        length = least + self.below(1 + self.below(1 + most - least))
        return tuple(self.below(kinds) for _ in range(length))

    def rule(self, kinds):
        return (self.shapes(0, 3, kinds), self.shapes(1, 4, kinds), self.shapes(0, 3, kinds), self.shapes(1, 3, kinds))

    def case(self):
        """A case of few shapes and mostly short rules, so that rules fit often."""
        kinds = 2 + self.below(3)
        passes = [[self.rule(kinds) for _ in range(1 + self.below(5))] for _ in range(self.below(5))]
        widths = {shape: self.below(30) for shape in range(kinds) if self.below(2) == 0}
        nears = {pair: self.below(41) - 20
                 for pair in itertools.product(range(kinds), repeat=2) if self.below(5) == 0}
        return (passes, widths, nears), kinds

    def row(self, most, kinds):
        return [self.below(kinds) for _ in range(self.below(most + 1))]


def picked(number, state=1, most=10):
    """That many cases with a row each."""
    picker = Picker(state)
    for _ in range(number):
        case, kinds = picker.case()
        yield case, picker.row(most, kinds)
