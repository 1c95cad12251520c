import copy
import itertools
import unittest

from inkmelt.setting import set_row
from inkmelt.widths import carets, width
from plain import carets_of, picked, rule, width_of


class WidthCase(unittest.TestCase):
    def assert_wide(self, passes, widths, nears, row, wide, told):
        case = (passes, widths, nears)
        before = copy.deepcopy((case, row))
        self.assertEqual(width(case, row), wide)
        self.assertEqual(carets(case, row), told)
        self.assertEqual((case, row), before)


class PlainRows(WidthCase):
    def test_no_letters(self):
        self.assert_wide([], {}, {}, [], 0, [0])
        self.assert_wide([[rule([], [1], [], [2, 2])], []], {1: 7, 2: 8}, {(1, 1): 5, (2, 2): 6}, [], 0, [0])

    def test_one_letter(self):
        self.assert_wide([], {}, {}, [5], 10, [0, 10])
        self.assert_wide([], {5: 3}, {}, [5], 3, [0, 3])
        self.assert_wide([[rule([], [9], [], [8])]], {9: 4, 5: 7}, {(5, 5): 100}, [5], 7, [0, 7])

    def test_kinds(self):
        case = ([[rule([], [1, 2], [], [9])]], {9: 7}, {})
        for row in ([], [1], [1, 2], [3, 1, 2]):
            self.assertIs(type(width(case, row)), int)
            self.assertIs(type(carets(case, row)), list)
            self.assertEqual({type(number) for number in carets(case, row)}, {int})

    def test_shape_that_widths_do_not_have_is_ten_wide(self):
        self.assert_wide([], {}, {}, [0, 999, 7], 30, [0, 10, 20, 30])
        self.assert_wide([], {7: 1}, {}, [0, 7, 999, 7], 22, [0, 10, 11, 21, 22])

    def test_bounds_of_widths(self):
        self.assert_wide([], {1: 0}, {}, [1, 2, 1], 10, [0, 0, 10, 10])
        self.assert_wide([], {1: 1000}, {}, [1, 1], 2000, [0, 1000, 2000])
        self.assert_wide([], {1: 0, 2: 0}, {}, [1, 2, 1], 0, [0, 0, 0, 0])

    def test_letter_counts_as_often_as_it_stands(self):
        self.assert_wide([], {1: 3}, {}, [1] * 60, 180, [3 * k for k in range(61)])
        self.assert_wide([], {1: 3}, {(1, 1): 2}, [1] * 60, 298, [5 * k for k in range(60)] + [298])


class Nears(WidthCase):
    def test_between_letters(self):
        self.assert_wide([], {1: 4, 2: 6}, {(1, 2): 5}, [1, 2], 15, [0, 9, 15])
        self.assert_wide([], {1: 4, 2: 6}, {(1, 2): -3}, [1, 2], 7, [0, 1, 7])

    def test_only_for_the_pair_in_its_order(self):
        self.assert_wide([], {}, {(1, 2): 5}, [2, 1], 20, [0, 10, 20])
        self.assert_wide([], {}, {(1, 2): 5, (2, 1): 7}, [1, 2, 1], 42, [0, 15, 32, 42])
        self.assert_wide([], {}, {(1, 3): 5}, [1, 2, 3], 30, [0, 10, 20, 30])

    def test_shape_beside_itself(self):
        self.assert_wide([], {}, {(1, 1): -2}, [1, 1, 1], 26, [0, 8, 16, 26])
        self.assert_wide([], {}, {(1, 1): -2}, [1], 10, [0, 10])

    def test_none_of_the_last_shape_with_the_first(self):
        self.assert_wide([], {}, {(2, 1): 50}, [1, 2], 20, [0, 10, 20])

    def test_near_of_nought(self):
        self.assert_wide([], {}, {(1, 2): 0}, [1, 2], 20, [0, 10, 20])

    def test_carets_that_go_left(self):
        self.assert_wide([], {1: 4, 2: 6}, {(1, 2): -30}, [1, 2, 3], -10, [0, -26, -20, -10])
        self.assert_wide([], {}, {(1, 1): -1000}, [1, 1, 1], -1970, [0, -990, -1980, -1970])
        self.assert_wide([], {}, {(1, 1): 1000}, [1, 1, 1], 2030, [0, 1010, 2020, 2030])

    def test_are_those_of_the_set_row(self):
        passes = [[rule([], [1, 2], [], [9])]]
        nears = {(1, 2): 100, (0, 1): 100, (2, 3): 100, (0, 9): 1, (9, 3): 2}
        self.assert_wide(passes, {9: 15}, nears, [0, 1, 2, 3], 38, [0, 11, 18, 28, 38])


class Bundles(WidthCase):
    def test_widths_are_those_of_the_set_row(self):
        self.assert_wide([[rule([], [1], [], [2])]], {1: 50, 2: 3}, {}, [1, 1], 6, [0, 3, 6])
        self.assert_wide([[rule([], [1], [], [2])], [rule([], [2], [], [3])]], {1: 50, 2: 60}, {}, [1], 10, [0, 10])

    def test_several_letters(self):
        self.assert_wide([[rule([], [1, 2], [], [9])]], {}, {}, [1, 2], 10, [0, 5, 10])
        self.assert_wide([[rule([], [1, 2], [], [9])]], {9: 16}, {}, [0, 1, 2, 3], 36, [0, 10, 18, 26, 36])
        self.assert_wide([[rule([], [1] * 4, [], [9])]], {9: 20}, {}, [1] * 4, 20, [0, 5, 10, 15, 20])

    def test_share_is_rounded_down(self):
        melt = [[rule([], [1, 1, 1], [], [9])]]
        self.assert_wide(melt, {}, {}, [1, 1, 1], 10, [0, 3, 6, 10])
        self.assert_wide(melt, {9: 11}, {}, [1, 1, 1], 11, [0, 3, 7, 11])
        self.assert_wide(melt, {9: 2}, {}, [1, 1, 1], 2, [0, 0, 1, 2])
        self.assert_wide(melt, {9: 1}, {}, [1, 1, 1], 1, [0, 0, 0, 1])
        self.assert_wide(melt, {9: 0}, {}, [1, 1, 1], 0, [0, 0, 0, 0])

    def test_share_is_multiplied_ahead_of_the_rounding(self):
        self.assert_wide([[rule([], [1] * 4, [], [9])]], {9: 7}, {}, [1] * 4, 7, [0, 1, 3, 5, 7])
        self.assert_wide([[rule([], [1] * 4, [], [9])]], {9: 3}, {}, [1] * 4, 3, [0, 0, 1, 2, 3])

    def test_share_counts_from_where_the_bundle_begins(self):
        melt = [[rule([], [1, 1, 1], [], [9])]]
        self.assert_wide(melt, {9: 11, 5: 4}, {}, [5, 1, 1, 1, 5], 19, [0, 4, 7, 11, 15, 19])
        self.assert_wide(melt, {9: 11, 5: 4}, {(5, 9): -7}, [5, 1, 1, 1, 5], 12, [0, -3, 0, 4, 8, 12])
        self.assert_wide(melt, {9: 11, 5: 4}, {(9, 5): 3}, [5, 1, 1, 1, 5], 22, [0, 4, 7, 11, 18, 22])

    def test_several_shapes(self):
        self.assert_wide([[rule([], [1], [], [7, 8])]], {7: 3, 8: 5}, {}, [1, 2], 18, [0, 8, 18])
        self.assert_wide([[rule([], [1], [], [7, 8, 9])]], {7: 3, 8: 5}, {}, [2, 1], 28, [0, 10, 28])

    def test_several_letters_and_shapes(self):
        passes = [[rule([], [1, 2, 3], [], [7, 8])]]
        self.assert_wide(passes, {7: 4, 8: 7}, {}, [0, 1, 2, 3, 0], 31, [0, 10, 13, 17, 21, 31])

    def test_near_within_a_bundle_is_its_own(self):
        passes = [[rule([], [1, 2, 3], [], [7, 8])]]
        self.assert_wide(passes, {7: 4, 8: 7}, {(7, 8): 3}, [1, 2, 3, 0], 24, [0, 4, 9, 14, 24])
        self.assert_wide(passes, {7: 4, 8: 7}, {(7, 8): -3}, [1, 2, 3, 0], 18, [0, 2, 5, 8, 18])

    def test_near_between_bundles_is_in_neither(self):
        passes = [[rule([], [1, 2], [], [7, 8])]]
        widths = {7: 4, 8: 7}
        self.assert_wide(passes, widths, {(8, 7): 6}, [1, 2, 1, 2], 28, [0, 5, 17, 22, 28])
        self.assert_wide(passes, widths, {(8, 7): -6}, [1, 2, 1, 2], 16, [0, 5, 5, 10, 16])
        self.assert_wide(passes, widths, {(8, 7): 6, (7, 8): -1}, [1, 2, 1, 2], 26, [0, 5, 16, 21, 26])

    def test_own_width_below_nought_is_rounded_down_too(self):
        passes = [[rule([], [1, 2, 3], [], [7, 8])]]
        self.assert_wide(passes, {7: 1, 8: 2}, {(7, 8): -7}, [1, 2, 3], -4, [0, -2, -3, -4])
        self.assert_wide(passes, {7: 1, 8: 2}, {(7, 8): -8}, [0, 1, 2, 3, 0], 15, [0, 10, 8, 6, 5, 15])
        self.assert_wide(passes, {7: 1, 8: 2}, {(7, 8): -4}, [1, 2, 3], -1, [0, -1, -1, -1])
        self.assert_wide(passes, {7: 1, 8: 2}, {(7, 8): -3}, [1, 2, 3], 0, [0, 0, 0, 0])

    def test_equal_bundles_side_by_side_stay_two(self):
        self.assert_wide([[rule([], [1], [], [7, 7])]], {7: 3}, {(7, 7): 1}, [1, 1], 15, [0, 8, 15])

    def test_bundle_melted_of_overlaps(self):
        passes = [[rule([], [1], [], [2, 3])], [rule([], [3, 2], [], [9])]]
        self.assert_wide(passes, {2: 3, 9: 4, 3: 1}, {(2, 9): 2}, [0, 1, 1, 1, 0], 34, [0, 10, 14, 19, 24, 34])

    def test_rules_with_behind_and_ahead(self):
        passes = [[rule([4], [1, 1], [5], [9])]]
        self.assert_wide(passes, {9: 5, 4: 1, 5: 2, 1: 3}, {}, [4, 1, 1, 5], 8, [0, 1, 3, 6, 8])
        self.assert_wide(passes, {9: 5, 4: 1, 5: 2, 1: 3}, {}, [4, 1, 1, 4], 8, [0, 1, 4, 7, 8])


class BesideAPlainWay(unittest.TestCase):
    def test_picked_cases(self):
        for case, row in picked(2000):
            before = copy.deepcopy((case, row))
            self.assertEqual(width(case, row), width_of(case, row), (case, row))
            self.assertEqual(carets(case, row), carets_of(case, row), (case, row))
            self.assertEqual((case, row), before)

    def test_a_caret_for_each_place(self):
        for case, row in picked(300, 2, 60):
            told = carets(case, row)
            self.assertEqual(len(told), len(row) + 1)
            self.assertEqual(told[0], 0)
            self.assertEqual(told[-1], width(case, row))

    def test_longest_rows(self):
        passes = [[rule([], [1], [], [1, 1, 1])] for _ in range(4)]
        case = (passes, {1: 1}, {})
        self.assertEqual(len(set_row(case, [1] * 60)), 4860)
        self.assertEqual(width(case, [1] * 60), 4860)
        self.assertEqual(carets(case, [1] * 60), [81 * k for k in range(61)])
        self.assertEqual(carets(([], {}, {}), [1] * 70), [10 * k for k in range(71)])


class TheAskersOwn(unittest.TestCase):
    """Point 1: what is told may be changed, and what was handed in too; nothing hangs on it."""

    def test_what_is_told_may_be_changed(self):
        for case in (([], {}, {}), ([[rule([], [1, 2], [], [9])]], {9: 7}, {(9, 3): 2})):
            for row in ([], [1], [1, 2, 3]):
                told = carets(case, row)
                kept = list(told)
                told.append("more")
                told.reverse()
                self.assertEqual(carets(case, row), kept)
                told.clear()
                self.assertEqual(carets(case, row), kept)

    def test_no_two_lists_are_one(self):
        row = [1, 2]
        told = [carets(([], {}, {}), one) for one in (row, row, [], [])]
        for one, other in itertools.combinations(told + [row], 2):
            self.assertIsNot(one, other)

    def test_what_was_handed_in_may_be_changed(self):
        row = [1, 2, 3]
        case = ([[rule([], [1, 2], [], [9])]], {9: 7}, {(9, 3): 2})
        told = carets(case, row)
        self.assertEqual((width(case, row), told), (19, [0, 3, 9, 19]))
        case[1][9] = 8
        self.assertEqual((width(case, row), carets(case, row)), (20, [0, 4, 10, 20]))
        case[2][(9, 3)] = -2
        self.assertEqual((width(case, row), carets(case, row)), (16, [0, 4, 6, 16]))
        case[0][0].clear()
        self.assertEqual((width(case, row), carets(case, row)), (30, [0, 10, 20, 30]))
        row.append(9)
        self.assertEqual((width(case, row), carets(case, row)), (38, [0, 10, 20, 30, 38]))
        self.assertEqual(told, [0, 3, 9, 19])


if __name__ == "__main__":
    unittest.main()
