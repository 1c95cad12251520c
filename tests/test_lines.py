import copy
import itertools
import unittest

from inkmelt.cuts import cuts
from inkmelt.lines import lines
from inkmelt.widths import width
from plain import lines_of, picked, rule

PLAIN = ([], {}, {})


class LineCase(unittest.TestCase):
    def assert_lines(self, case, row, measure, told):
        before = copy.deepcopy((case, row))
        self.assertEqual(lines(case, row, measure), told)
        self.assertEqual((case, row), before)


class PlainRows(LineCase):
    def test_no_letters(self):
        for measure in (1, 50, 100000):
            self.assert_lines(PLAIN, [], measure, [])
            self.assert_lines(([[rule([], [1], [], [2])], []], {1: 5}, {(1, 1): 2}), [], measure, [])

    def test_one_letter(self):
        for measure in (1, 9, 10, 11, 100000):
            self.assert_lines(PLAIN, [5], measure, [(0, 1)])

    def test_kinds(self):
        for row in ([], [1], [1, 2, 3]):
            told = lines(PLAIN, row, 15)
            self.assertIs(type(told), list)
            self.assertTrue(all(type(line) is tuple and len(line) == 2 for line in told))

    def test_all_fits(self):
        self.assert_lines(PLAIN, [1] * 5, 1000, [(0, 5)])
        self.assert_lines(PLAIN, [1] * 60, 100000, [(0, 60)])

    def test_nothing_fits(self):
        self.assert_lines(PLAIN, [1, 2, 3], 1, [(0, 1), (1, 2), (2, 3)])
        self.assert_lines(PLAIN, [1] * 60, 9, [(k, k + 1) for k in range(60)])

    def test_just_the_measure(self):
        row = [1] * 5
        self.assert_lines(PLAIN, row, 50, [(0, 5)])
        self.assert_lines(PLAIN, row, 49, [(0, 4), (4, 5)])
        self.assert_lines(PLAIN, row, 20, [(0, 2), (2, 4), (4, 5)])
        self.assert_lines(PLAIN, row, 19, [(k, k + 1) for k in range(5)])
        self.assert_lines(PLAIN, row, 21, [(0, 2), (2, 4), (4, 5)])
        self.assert_lines(PLAIN, row, 30, [(0, 3), (3, 5)])
        self.assert_lines(PLAIN, row, 10, [(k, k + 1) for k in range(5)])

    def test_widths_of_the_letters(self):
        case = ([], {1: 30, 2: 5}, {})
        self.assert_lines(case, [2, 2, 2, 1, 2, 2], 12, [(0, 2), (2, 3), (3, 4), (4, 6)])
        self.assert_lines(case, [1, 2, 2, 2], 30, [(0, 1), (1, 4)])
        self.assert_lines(case, [1, 2, 2, 2], 35, [(0, 2), (2, 4)])

    def test_letters_without_width(self):
        case = ([], {1: 0, 2: 5}, {})
        self.assert_lines(case, [1, 1, 1], 1, [(0, 3)])
        self.assert_lines(case, [2, 1, 1, 2, 1], 5, [(0, 3), (3, 5)])
        self.assert_lines(case, [2, 1, 1, 2, 1], 4, [(0, 1), (1, 3), (3, 4), (4, 5)])


class BarredPlaces(LineCase):
    def test_lines_end_at_cuts_alone(self):
        case = ([[rule([], [1, 2], [], [9])]], {}, {})
        row = [0, 1, 2, 0, 1, 2]
        self.assert_lines(case, row, 10, [(0, 1), (1, 3), (3, 4), (4, 6)])
        self.assert_lines(case, row, 20, [(0, 3), (3, 6)])
        self.assert_lines(case, row, 25, [(0, 3), (3, 6)])
        self.assert_lines(case, row, 39, [(0, 4), (4, 6)])
        self.assert_lines(case, row, 40, [(0, 6)])

    def test_where_nothing_fits_to_the_least_cut(self):
        case = ([[rule([4], [1], [5], [9])]], {}, {})
        row = [4, 1, 5, 0, 0, 4, 1, 5]
        self.assert_lines(case, row, 29, [(0, 3), (3, 5), (5, 8)])
        self.assert_lines(case, row, 15, [(0, 3), (3, 4), (4, 5), (5, 8)])
        self.assert_lines(case, row, 30, [(0, 3), (3, 5), (5, 8)])

    def test_no_cut_at_all(self):
        self.assert_lines(([], {}, {(1, 1): 1}), [1] * 60, 5, [(0, 60)])
        self.assert_lines(([[rule([], [1, 1], [], [9])]], {9: 1000}, {}), [1, 1], 1, [(0, 2)])

    def test_nears_keep_lines_together_and_count(self):
        case = ([], {}, {(1, 2): 5})
        self.assert_lines(case, [1, 2, 1, 2], 25, [(0, 2), (2, 4)])
        self.assert_lines(case, [1, 2, 1, 2], 24, [(0, 2), (2, 4)])
        self.assert_lines(case, [1, 2, 1, 2], 49, [(0, 2), (2, 4)])
        self.assert_lines(case, [1, 2, 1, 2], 50, [(0, 4)])
        self.assert_lines(case, [3, 1, 2], 34, [(0, 1), (1, 3)])

    def test_several_letters_and_shapes(self):
        case = ([[rule([], [1, 2], [], [7, 8])]], {7: 3, 8: 4}, {(7, 8): 2})
        row = [1, 2] * 4
        self.assert_lines(case, row, 9, [(0, 2), (2, 4), (4, 6), (6, 8)])
        self.assert_lines(case, row, 26, [(0, 4), (4, 8)])
        self.assert_lines(case, row, 27, [(0, 6), (6, 8)])
        self.assert_lines(case, row, 36, [(0, 8)])


class GreatestPlace(LineCase):
    """Where nears are below nought, a longer line can be less wide than a shorter one."""

    def test_longer_line_fits_where_a_shorter_one_does_not(self):
        case = ([], {1: 20, 2: 10, 3: 10}, {(2, 3): -30})
        self.assertEqual(cuts(case, [1, 2, 3]), [1])
        self.assert_lines(case, [1, 2, 3], 10, [(0, 3)])
        self.assert_lines(case, [1, 2, 3], 9, [(0, 1), (1, 3)])

    def test_amid_the_row(self):
        case = ([], {1: 20, 2: 10, 3: 10, 4: 50}, {(2, 3): -30})
        self.assert_lines(case, [4, 1, 2, 3, 4], 15, [(0, 1), (1, 4), (4, 5)])
        self.assert_lines(case, [4, 1, 2, 3, 4], 60, [(0, 4), (4, 5)])
        self.assert_lines(case, [4, 1, 2, 3, 4], 110, [(0, 5)])

    def test_width_below_nought(self):
        case = ([], {1: 5, 2: 5}, {(1, 2): -30})
        self.assertEqual(width(case, [1, 2]), -20)
        self.assert_lines(case, [1, 2, 1, 2, 3], 1, [(0, 5)])
        self.assert_lines(case, [3, 1, 2, 3], 9, [(0, 4)])

    def test_measure_somewhat_beyond_its_bounds(self):
        self.assert_lines(PLAIN, [1, 2], 0, [(0, 1), (1, 2)])
        self.assert_lines(PLAIN, [1, 2], -1, [(0, 1), (1, 2)])
        self.assert_lines(([], {1: 0}, {}), [1, 1, 2], 0, [(0, 2), (2, 3)])
        self.assert_lines(PLAIN, [1] * 70, 100001, [(0, 70)])


class BesideAPlainWay(LineCase):
    MEASURES = (1, 10, 20, 33, 47, 100, 100000)

    def test_picked_cases(self):
        for case, row in picked(250, 7):
            for measure in self.MEASURES:
                self.assert_lines(case, row, measure, lines_of(case, row, measure))

    def test_lines_of_long_rows(self):
        for case, row in picked(40, 8, 60):
            places = cuts(case, row) + [len(row)]
            for measure in self.MEASURES:
                reached = 0
                for begin, end in lines(case, row, measure):
                    self.assertEqual(begin, reached)
                    self.assertIn(end, places)
                    later = [place for place in places if place > begin]
                    fitting = [place for place in later if width(case, row[begin:place]) <= measure]
                    self.assertEqual(end, max(fitting) if fitting else later[0])
                    reached = end
                self.assertEqual(reached, len(row))


class TheAskersOwn(unittest.TestCase):
    """Point 1: what is told may be changed, and what was handed in too; nothing hangs on it."""

    def test_what_is_told_may_be_changed(self):
        for case in (PLAIN, ([[rule([], [1, 2], [], [9])]], {9: 7}, {(9, 3): 2})):
            for row in ([], [1], [4, 1, 2, 3, 4]):
                told = lines(case, row, 20)
                kept = list(told)
                told.append("more")
                told.reverse()
                self.assertEqual(lines(case, row, 20), kept)
                told.clear()
                self.assertEqual(lines(case, row, 20), kept)

    def test_no_two_lists_are_one(self):
        row = [1, 2]
        told = [lines(PLAIN, one, 10) for one in (row, row, [], [])]
        for one, other in itertools.combinations(told + [row], 2):
            self.assertIsNot(one, other)

    def test_what_was_handed_in_may_be_changed(self):
        row = [4, 1, 2, 3]
        case = ([[rule([], [1, 2], [], [9])]], {}, {(9, 3): 2})
        told = lines(case, row, 20)
        self.assertEqual(told, [(0, 1), (1, 4)])
        case[2].clear()
        self.assertEqual(lines(case, row, 20), [(0, 3), (3, 4)])
        case[1][9] = 11
        self.assertEqual(lines(case, row, 20), [(0, 1), (1, 3), (3, 4)])
        case[0][0].clear()
        self.assertEqual(lines(case, row, 20), [(0, 2), (2, 4)])
        row.append(5)
        self.assertEqual(lines(case, row, 20), [(0, 2), (2, 4), (4, 5)])
        self.assertEqual(told, [(0, 1), (1, 4)])


if __name__ == "__main__":
    unittest.main()
