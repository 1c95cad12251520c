import copy
import unittest

from inkmelt.cases import looked
from inkmelt.errors import BadNumber, BadRule, BadShape, TooMany

RULE = ((), (1,), (), (2,))
PARTS = ("behind", "take", "ahead", "give")
LEAST = (0, 1, 0, 1)
MOST = (3, 4, 3, 3)
BEYOND_SHAPES = (-1, 1000, -1000, 10 ** 9, -(10 ** 9))


def with_part(number, part):
    parts = list(RULE)
    parts[number] = part
    return tuple(parts)


def at_each_place(rule):
    """Passes that hold the rule: by itself, as a later rule, in a later pass, as the very last one."""
    yield [[rule]]
    yield [[RULE, RULE, rule]]
    yield [[rule, RULE]]
    yield [[RULE], [], [rule, RULE]]
    yield [[RULE] * 8, [RULE] * 8, [RULE] * 8, [RULE] * 7 + [rule]]


class LookedCase(unittest.TestCase):
    def assert_refused(self, kind, case):
        before = copy.deepcopy(case)
        with self.assertRaises(kind) as caught:
            looked(case)
        self.assertIs(type(caught.exception), kind)
        self.assertEqual(case, before)

    def assert_let_through(self, number, case):
        before = copy.deepcopy(case)
        told = looked(case)
        self.assertIs(type(told), int)
        self.assertEqual(told, number)
        self.assertEqual(case, before)


class LetThrough(LookedCase):
    def test_empty_ones(self):
        self.assert_let_through(0, ([], {}, {}))
        self.assert_let_through(0, ([[]], {}, {}))
        self.assert_let_through(0, ([[], [], [], []], {}, {}))

    def test_number_of_rules(self):
        self.assert_let_through(1, ([[RULE]], {}, {}))
        self.assert_let_through(3, ([[RULE], [], [RULE, RULE]], {5: 3}, {(1, 2): 4}))
        self.assert_let_through(6, ([[RULE] * 3, [RULE] * 2, [RULE]], {}, {}))

    def test_equal_rules_count_each(self):
        self.assert_let_through(4, ([[RULE, RULE], [RULE, RULE]], {}, {}))

    def test_most_passes_and_rules(self):
        self.assert_let_through(8, ([[RULE] * 8], {}, {}))
        self.assert_let_through(4, ([[RULE]] * 4, {}, {}))
        self.assert_let_through(32, ([[RULE] * 8 for _ in range(4)], {}, {}))

    def test_each_number_of_shapes(self):
        for number, name in enumerate(PARTS):
            for length in range(LEAST[number], MOST[number] + 1):
                with self.subTest(name, length=length):
                    self.assert_let_through(1, ([[with_part(number, (7,) * length)]], {}, {}))

    def test_fullest_and_emptiest_rule(self):
        self.assert_let_through(1, ([[((1,) * 3, (2,) * 4, (3,) * 3, (4,) * 3)]], {}, {}))
        self.assert_let_through(1, ([[((), (2,), (), (4,))]], {}, {}))

    def test_bounds_of_shapes(self):
        for number, name in enumerate(PARTS):
            with self.subTest(name):
                self.assert_let_through(1, ([[with_part(number, (0, 999))]], {}, {}))
        self.assert_let_through(0, ([], {0: 5, 999: 5}, {}))
        self.assert_let_through(0, ([], {}, {(0, 999): 1, (999, 0): 1, (0, 0): 1, (999, 999): 1}))

    def test_bounds_of_numbers(self):
        self.assert_let_through(0, ([], {1: 0, 2: 1000, 3: 1, 4: 999}, {}))
        self.assert_let_through(0, ([], {}, {(1, 1): -1000, (1, 2): 1000, (2, 1): 0, (2, 2): -999}))

    def test_all_bounds_at_once(self):
        rule = ((0, 999, 0), (999, 0, 999, 0), (0, 999, 0), (999, 0, 999))
        widths = {0: 0, 999: 1000}
        nears = {(0, 999): -1000, (999, 0): 1000}
        self.assert_let_through(32, ([[rule] * 8 for _ in range(4)], widths, nears))


class RefusedTooMany(LookedCase):
    def test_passes(self):
        for number in (5, 6, 40):
            with self.subTest(number):
                self.assert_refused(TooMany, ([[RULE] for _ in range(number)], {}, {}))
                self.assert_refused(TooMany, ([[] for _ in range(number)], {}, {}))

    def test_rules_in_any_pass(self):
        for number in (9, 10, 80):
            for place in range(4):
                with self.subTest(number, place=place):
                    passes = [[RULE] for _ in range(4)]
                    passes[place] = [RULE] * number
                    self.assert_refused(TooMany, (passes, {}, {}))
                    self.assert_refused(TooMany, (passes[:place + 1], {}, {}))


class RefusedBadRule(LookedCase):
    def test_too_many_shapes_in_each_part(self):
        for number, name in enumerate(PARTS):
            for more in (1, 2, 30):
                for passes in at_each_place(with_part(number, (7,) * (MOST[number] + more))):
                    with self.subTest(name, more=more):
                        self.assert_refused(BadRule, (passes, {}, {}))

    def test_nothing_taken_or_given(self):
        for number in (1, 3):
            for passes in at_each_place(with_part(number, ())):
                with self.subTest(PARTS[number]):
                    self.assert_refused(BadRule, (passes, {}, {}))


class RefusedBadShape(LookedCase):
    def test_in_each_part_of_a_rule(self):
        for number, name in enumerate(PARTS):
            for shape in BEYOND_SHAPES:
                for part in ((shape,), (shape, 5, 5), (5, shape, 5), (5, 5, shape)):
                    for passes in at_each_place(with_part(number, part)):
                        with self.subTest(name, part=part):
                            self.assert_refused(BadShape, (passes, {}, {}))

    def test_at_the_end_of_the_longest_take(self):
        self.assert_refused(BadShape, ([[((), (1, 2, 3, 1000), (), (1,))]], {}, {}))

    def test_among_widths(self):
        for shape in BEYOND_SHAPES:
            with self.subTest(shape):
                self.assert_refused(BadShape, ([], {shape: 10}, {}))
                self.assert_refused(BadShape, ([[RULE]], {1: 10, shape: 10, 2: 10}, {}))
                self.assert_refused(BadShape, ([], {1: 10, 2: 10, shape: 10}, {(1, 1): 1}))

    def test_among_both_shapes_of_nears(self):
        for shape in BEYOND_SHAPES:
            for pair in ((shape, 1), (1, shape), (shape, shape)):
                with self.subTest(pair):
                    self.assert_refused(BadShape, ([], {}, {pair: 1}))
                    self.assert_refused(BadShape, ([[RULE]], {1: 1}, {(1, 1): 1, pair: 1}))
                    self.assert_refused(BadShape, ([], {}, {pair: 1, (1, 1): 1}))


class RefusedBadNumber(LookedCase):
    def test_widths(self):
        for number in (-1, 1001, -500, -1000, 5000, 10 ** 9):
            with self.subTest(number):
                self.assert_refused(BadNumber, ([], {1: number}, {}))
                self.assert_refused(BadNumber, ([[RULE]], {1: 10, 2: number, 3: 10}, {(1, 1): 0}))
                self.assert_refused(BadNumber, ([], {1: 10, 2: 10, 3: number}, {}))

    def test_nears(self):
        for number in (-1001, 1001, -5000, 5000, -(10 ** 9), 10 ** 9):
            with self.subTest(number):
                self.assert_refused(BadNumber, ([], {}, {(1, 2): number}))
                self.assert_refused(BadNumber, ([[RULE]], {1: 10}, {(1, 1): 0, (1, 2): number, (2, 1): 0}))


class TheOrderOfRefusals(LookedCase):
    """The kind of a fault says which one is told, whatever its place."""

    TOO_LONG = ((), (1,) * 5, (), (1,))
    BAD_SHAPE = ((), (1000,), (), (1,))

    def test_too_many_goes_first(self):
        faulty = [self.TOO_LONG, self.BAD_SHAPE]
        self.assert_refused(TooMany, ([faulty, [RULE] * 9], {-1: -1}, {(-1, 1): 2000}))
        self.assert_refused(TooMany, ([faulty, [], [], [], []], {-1: -1}, {(-1, 1): 2000}))
        self.assert_refused(TooMany, ([[self.TOO_LONG] * 9], {}, {}))
        self.assert_refused(TooMany, ([[self.BAD_SHAPE] * 9], {}, {}))
        self.assert_refused(TooMany, ([[self.TOO_LONG]] * 5, {}, {}))
        self.assert_refused(TooMany, ([[RULE] * 9], {1000: 1}, {}))
        self.assert_refused(TooMany, ([[RULE] * 9], {1: -1}, {}))
        self.assert_refused(TooMany, ([[RULE] * 9], {}, {(1, 1): 1001}))

    def test_bad_rule_goes_ahead_of_bad_shape_and_bad_number(self):
        self.assert_refused(BadRule, ([[self.BAD_SHAPE, self.TOO_LONG]], {}, {}))
        self.assert_refused(BadRule, ([[self.TOO_LONG, self.BAD_SHAPE]], {}, {}))
        self.assert_refused(BadRule, ([[self.BAD_SHAPE], [], [RULE, self.TOO_LONG]], {}, {}))
        self.assert_refused(BadRule, ([[((-1,), (1,), (), ())]], {}, {}))
        self.assert_refused(BadRule, ([[((1000,) * 4, (1,), (), (1,))]], {}, {}))
        self.assert_refused(BadRule, ([[self.TOO_LONG]], {1000: 1}, {(-1, 1): 1}))
        self.assert_refused(BadRule, ([[self.TOO_LONG]], {1: 1001}, {(1, 1): -1001}))

    def test_bad_shape_goes_ahead_of_bad_number(self):
        self.assert_refused(BadShape, ([[self.BAD_SHAPE]], {1: -1}, {(1, 1): 1001}))
        self.assert_refused(BadShape, ([], {1: -1, 1000: 1}, {}))
        self.assert_refused(BadShape, ([], {1000: -1}, {}))
        self.assert_refused(BadShape, ([], {1: 1001}, {(1, 1000): 1}))
        self.assert_refused(BadShape, ([], {1: 1001}, {(-1, 1): 1}))
        self.assert_refused(BadShape, ([], {}, {(1, 1): 1001, (1, -1): 1}))
        self.assert_refused(BadShape, ([], {}, {(1, -1): 1001}))
        self.assert_refused(BadShape, ([], {-1: 1}, {(1, 1): 1001}))

    def test_all_faults_at_once(self):
        case = ([[self.TOO_LONG, self.BAD_SHAPE]], {1: 1001, 1000: 1}, {(1, 1): 1001, (1, -1): 0})
        self.assert_refused(BadRule, case)
        self.assert_refused(TooMany, ([[]] * 4 + case[0], case[1], case[2]))
        self.assert_refused(BadShape, ([[RULE]], case[1], case[2]))
        self.assert_refused(BadNumber, ([[RULE]], {1: 1001}, {(1, 1): 1001}))


class NothingIsKept(LookedCase):
    def test_a_case_changed_later_is_looked_through_anew(self):
        passes = [[RULE]]
        widths = {1: 1}
        nears = {(1, 1): 1}
        case = (passes, widths, nears)
        self.assert_let_through(1, case)
        self.assert_let_through(1, case)
        passes[0].append(RULE)
        self.assert_let_through(2, case)
        nears[(1, 1)] = 1001
        self.assert_refused(BadNumber, case)
        widths[1000] = 1
        self.assert_refused(BadShape, case)
        passes.append([((), (), (), (1,))])
        self.assert_refused(BadRule, case)
        passes[0].extend([RULE] * 7)
        self.assert_refused(TooMany, case)
        passes[:] = [[RULE]]
        widths.clear()
        nears.clear()
        self.assert_let_through(1, case)


if __name__ == "__main__":
    unittest.main()
