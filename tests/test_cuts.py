import copy
import itertools
import unittest

from inkmelt.cuts import bar, cuts
from inkmelt.errors import InkError, NoPlace
from inkmelt.setting import set_row
from inkmelt.widths import width
from plain import bar_of, cuts_of, picked, rule


class CutCase(unittest.TestCase):
    def assert_bars(self, case, row, told):
        """told: what bars each place from 1 on, None for each cut."""
        before = copy.deepcopy((case, row))
        self.assertEqual([bar(case, row, place) for place in range(1, len(row))], told)
        self.assertEqual(cuts(case, row), [place for place, one in enumerate(told, 1) if one is None])
        self.assertEqual((case, row), before)

    def assert_bars_of_rules(self, passes, row, told):
        self.assert_bars((passes, {}, {}), row, told)
        self.assert_bars((passes, {1: 0, 2: 1000}, {(998, 997): 3}), row, told)


class WithoutBars(CutCase):
    def test_no_letters_and_one(self):
        for case in (([], {}, {}), ([[rule([], [1], [], [2, 2])]], {1: 5}, {(1, 1): 3, (2, 2): 3})):
            self.assertEqual(cuts(case, []), [])
            self.assertEqual(cuts(case, [1]), [])

    def test_two_letters(self):
        self.assert_bars_of_rules([], [1, 2], [None])

    def test_no_rules(self):
        self.assert_bars_of_rules([], [1, 2, 3, 4], [None] * 3)
        self.assert_bars_of_rules([[], []], [1] * 60, [None] * 59)

    def test_no_rule_fits(self):
        self.assert_bars_of_rules([[rule([], [1, 3], [], [9])], [rule([9], [2], [], [8])]], [1, 2, 3], [None] * 2)

    def test_rules_of_one_letter(self):
        self.assert_bars_of_rules([[rule([], [1], [], [7])], [rule([], [7], [], [8, 8])]], [1, 1, 2], [None] * 2)

    def test_kinds(self):
        case = ([[rule([], [1, 2], [], [9])]], {}, {(9, 3): 1})
        for row in ([], [1], [1, 2, 3, 4]):
            self.assertIs(type(cuts(case, row)), list)
        self.assertEqual({type(place) for place in cuts(case, [5, 1, 2, 3, 4])}, {int})
        self.assertIs(type(bar(case, [1, 2, 3, 4], 1)), tuple)
        self.assertIs(type(bar(case, [1, 2, 3, 4], 2)), tuple)
        self.assertIsNone(bar(case, [1, 2, 3, 4], 3))


class BarredByRules(CutCase):
    def test_take(self):
        one = ("rule", 0, 1, 0)
        self.assert_bars_of_rules([[rule([], [1, 2], [], [9])]], [0, 1, 2, 0], [None, one, None])
        self.assert_bars_of_rules([[rule([], [1, 2, 3, 4], [], [9])]], [0, 1, 2, 3, 4, 0], [None, one, one, one, None])

    def test_take_at_both_ends(self):
        passes = [[rule([], [1, 2], [], [9])]]
        self.assert_bars_of_rules(passes, [1, 2, 1, 2], [("rule", 0, 0, 0), None, ("rule", 0, 2, 0)])

    def test_what_is_given_does_not_count(self):
        one = ("rule", 0, 0, 0)
        self.assert_bars_of_rules([[rule([], [1, 2], [], [1, 2])]], [1, 2, 3], [one, None])
        self.assert_bars_of_rules([[rule([], [1, 2], [], [7, 8, 9])]], [1, 2, 3], [one, None])

    def test_behind(self):
        self.assert_bars_of_rules([[rule([4], [1], [], [9])]], [0, 4, 1, 0], [None, ("rule", 0, 2, 0), None])
        one = ("rule", 0, 4, 0)
        self.assert_bars_of_rules([[rule([4, 5, 6], [1], [], [9])]], [0, 4, 5, 6, 1, 0], [None, one, one, one, None])

    def test_ahead(self):
        one = ("rule", 0, 1, 0)
        self.assert_bars_of_rules([[rule([], [1], [4], [9])]], [0, 1, 4, 0], [None, one, None])
        self.assert_bars_of_rules([[rule([], [1], [4, 5, 6], [9])]], [0, 1, 4, 5, 6, 0], [None, one, one, one, None])

    def test_behind_take_and_ahead_together(self):
        one = ("rule", 0, 3, 0)
        passes = [[rule([4, 5], [1, 2], [6, 7, 8], [9])]]
        self.assert_bars_of_rules(passes, [0, 4, 5, 1, 2, 6, 7, 8, 0], [None] + [one] * 6 + [None])
        self.assert_bars_of_rules(passes, [0, 4, 5, 1, 2, 6, 7, 7, 0], [None] * 8)

    def test_rule_that_fits_but_is_not_done(self):
        passes = [[rule([], [1], [], [9]), rule([], [1, 2], [], [8])]]
        self.assert_bars_of_rules(passes, [1, 2], [None])
        passes = [[rule([], [1, 1], [], [9])]]
        self.assert_bars_of_rules(passes, [1, 1, 1], [("rule", 0, 0, 0), None])

    def test_number_of_the_rule(self):
        passes = [[rule([], [5], [], [9]), rule([], [6, 6], [], [9]), rule([], [1, 2], [], [8])]]
        self.assert_bars_of_rules(passes, [6, 6, 1, 2], [("rule", 0, 0, 1), None, ("rule", 0, 2, 2)])

    def test_last_of_four_passes_and_of_eight_rules(self):
        unfit = rule([], [99], [], [98])
        passes = [[unfit], [], [unfit] * 8, [unfit] * 7 + [rule([], [1, 2], [], [9])]]
        self.assert_bars_of_rules(passes, [0, 1, 2], [None, ("rule", 3, 1, 7)])

    def test_rule_of_a_later_pass(self):
        passes = [[rule([], [1], [], [2])], [rule([], [2, 3], [], [9])]]
        self.assert_bars_of_rules(passes, [1, 3, 1], [("rule", 1, 0, 0), None])

    def test_place_is_that_of_the_row_of_the_pass(self):
        passes = [[rule([], [1], [], [7, 7, 7])], [rule([], [2, 3], [], [9])]]
        self.assert_bars_of_rules(passes, [1, 2, 3, 1], [None, ("rule", 1, 3, 0), None])
        passes = [[rule([], [1, 1], [], [7])], [rule([7], [2], [], [9])]]
        self.assert_bars_of_rules(passes, [1, 1, 2], [("rule", 0, 0, 0), ("rule", 1, 1, 0)])

    def test_letters_are_those_of_the_row_of_the_pass(self):
        passes = [[rule([], [1, 1], [], [7])], [rule([7], [2], [7], [9])]]
        self.assert_bars_of_rules(passes, [1, 1, 2, 1, 1], [("rule", 0, 0, 0), ("rule", 1, 1, 0), ("rule", 1, 1, 0),
                                                            ("rule", 0, 3, 0)])

    def test_shapes_of_one_letter_go_across_no_place(self):
        passes = [[rule([], [1], [], [7, 8])], [rule([7], [8], [], [9]), rule([], [7], [8], [6])]]
        self.assert_bars_of_rules(passes, [0, 1, 0], [None, None])
        passes = [[rule([], [1], [], [7, 8])], [rule([], [7, 8], [], [9])]]
        self.assert_bars_of_rules(passes, [1, 1], [None])

    def test_part_of_a_bundle(self):
        passes = [[rule([], [1], [], [7, 8])], [rule([], [8, 2], [], [9])]]
        self.assert_bars_of_rules(passes, [0, 1, 2, 0], [None, ("rule", 1, 2, 0), None])

    def test_part_of_a_bundle_of_several_letters(self):
        passes = [[rule([], [1, 1], [], [7, 8])], [rule([], [8], [2], [9])]]
        first, second = ("rule", 0, 1, 0), ("rule", 1, 2, 0)
        self.assert_bars_of_rules(passes, [0, 1, 1, 2, 0], [None, first, second, None])

    def test_overlaps_of_a_pass_count_in_the_next(self):
        passes = [[rule([], [1], [], [2, 3])], [rule([], [3, 4], [], [9])], [rule([], [0], [2], [8])]]
        self.assert_bars_of_rules(passes, [0, 1, 4, 5], [("rule", 2, 0, 0), ("rule", 1, 2, 0), None])


class TheFirstDoing(CutCase):
    def test_first_pass_goes_ahead(self):
        passes = [[rule([], [1], [2], [1])], [rule([0], [1], [2], [9])]]
        self.assert_bars_of_rules(passes, [0, 1, 2], [("rule", 1, 1, 0), ("rule", 0, 1, 0)])

    def test_first_pass_goes_ahead_of_an_earlier_place_and_an_earlier_rule(self):
        unfit = rule([], [99], [], [98])
        passes = [[unfit, rule([0, 1], [2], [], [2])], [rule([], [0], [1, 2], [9])]]
        self.assert_bars_of_rules(passes, [0, 1, 2], [("rule", 0, 2, 1)] * 2)

    def test_first_place_goes_ahead_in_a_pass(self):
        passes = [[rule([], [1], [1], [9])]]
        self.assert_bars_of_rules(passes, [1, 1, 1], [("rule", 0, 0, 0), ("rule", 0, 1, 0)])
        passes = [[rule([], [1], [1, 1], [9])]]
        self.assert_bars_of_rules(passes, [1, 1, 1, 1], [("rule", 0, 0, 0)] * 2 + [("rule", 0, 1, 0)])
        passes = [[rule([1, 1], [1], [], [9])]]
        self.assert_bars_of_rules(passes, [1, 1, 1, 1], [("rule", 0, 2, 0)] * 2 + [("rule", 0, 3, 0)])

    def test_first_place_goes_ahead_of_an_earlier_rule(self):
        passes = [[rule([1], [2], [], [8]), rule([], [1], [2], [9])]]
        self.assert_bars_of_rules(passes, [1, 2], [("rule", 0, 0, 1)])

    def test_rule_goes_ahead_of_near(self):
        case = ([[], [rule([1], [2], [], [2])]], {}, {(1, 2): 5, (2, 3): 6})
        self.assert_bars(case, [1, 2, 3, 4], [("rule", 1, 1, 0), ("near", 1), None])


class BarredByNears(CutCase):
    def test_between_letters(self):
        self.assert_bars(([], {}, {(1, 2): 5}), [0, 1, 2, 0], [None, ("near", 1), None])
        self.assert_bars(([], {}, {(1, 2): -5}), [1, 2], [("near", 0)])
        self.assert_bars(([], {}, {(1, 2): 1, (2, 1): -1}), [1, 2, 1, 2], [("near", 0), ("near", 1), ("near", 2)])

    def test_only_for_the_pair_in_its_order(self):
        self.assert_bars(([], {}, {(1, 2): 5}), [2, 1], [None])
        self.assert_bars(([], {}, {(1, 3): 5}), [1, 2, 3], [None, None])

    def test_near_of_nought_bars_nothing(self):
        self.assert_bars(([], {}, {(1, 2): 0, (2, 1): 0}), [1, 2, 1], [None, None])

    def test_are_those_of_the_set_row(self):
        passes = [[rule([], [1], [], [7])]]
        self.assert_bars((passes, {}, {(1, 2): 5, (2, 1): 5}), [1, 2, 1], [None, None])
        self.assert_bars((passes, {}, {(7, 2): 5}), [1, 2, 1], [("near", 0), None])
        self.assert_bars((passes, {}, {(2, 7): 5}), [1, 2, 1], [None, ("near", 1)])

    def test_place_is_that_of_the_set_row(self):
        passes = [[rule([], [1], [], [7, 8, 9])]]
        self.assert_bars((passes, {}, {(2, 3): 5}), [1, 1, 2, 3], [None, None, ("near", 6)])
        passes = [[rule([], [1, 1], [], [7])]]
        self.assert_bars((passes, {}, {(7, 3): 5}), [1, 1, 3], [("rule", 0, 0, 0), ("near", 0)])

    def test_near_within_a_bundle_bars_nothing(self):
        passes = [[rule([], [1], [], [7, 8])]]
        self.assert_bars((passes, {}, {(7, 8): 5}), [1, 1, 2], [None, None])
        self.assert_bars((passes, {}, {(7, 8): 5, (8, 7): 2}), [1, 1, 2], [("near", 1), None])
        passes = [[rule([], [1, 2], [], [7, 8])]]
        self.assert_bars((passes, {}, {(7, 8): 5}), [1, 2, 0], [("rule", 0, 0, 0), None])

    def test_equal_shapes_within_and_between(self):
        passes = [[rule([], [1], [], [7, 7])]]
        self.assert_bars((passes, {}, {(7, 7): 5}), [1, 1, 2], [("near", 1), None])

    def test_nears_of_longest_rows(self):
        self.assert_bars(([], {}, {(1, 1): 1}), [1] * 60, [("near", at) for at in range(59)])


class NoPlaces(CutCase):
    CASES = (([], {}, {}), ([[rule([], [1, 1], [], [9])]], {}, {(1, 1): 5}))

    def assert_no_place(self, case, row, place):
        before = copy.deepcopy((case, row))
        with self.assertRaises(NoPlace) as caught:
            bar(case, row, place)
        self.assertIs(type(caught.exception), NoPlace)
        self.assertIsInstance(caught.exception, InkError)
        self.assertEqual((case, row), before)

    def test_edges(self):
        for case in self.CASES:
            for number in (2, 3, 60):
                row = [1] * number
                for place in (0, number, -1, number + 1, -number, 1 - number, 2 * number, 10 ** 9, -(10 ** 9)):
                    with self.subTest(number, place=place):
                        self.assert_no_place(case, row, place)
                bar(case, row, 1)
                bar(case, row, number - 1)

    def test_rows_without_any_place(self):
        for case in self.CASES:
            for row in ([], [1]):
                for place in (-2, -1, 0, 1, 2):
                    with self.subTest(row, place=place):
                        self.assert_no_place(case, row, place)


class BesideAPlainWay(CutCase):
    def test_picked_cases(self):
        for case, row in picked(2000):
            self.assert_bars(case, row, [bar_of(case, row, place) for place in range(1, len(row))])

    def test_cuts_of_long_rows(self):
        for case, row in picked(15, 14, 40):
            self.assertEqual(cuts(case, row), cuts_of(case, row), (case, row))

    def test_cut_or_bar_and_never_both(self):
        for case, row in picked(150, 5, 60):
            told = cuts(case, row)
            self.assertEqual(told, sorted(set(told)))
            for place in range(1, len(row)):
                self.assertEqual(place in told, bar(case, row, place) is None)
            self.assertTrue(all(1 <= place < len(row) for place in told))


class Pieces(unittest.TestCase):
    """Point 10."""

    def assert_pieces(self, case, row, places):
        edges = [0] + list(places) + [len(row)]
        slots = []
        wide = 0
        for begin, end in zip(edges, edges[1:]):
            piece = row[begin:end]
            slots += [(shape, of + begin, to + begin) for shape, of, to in set_row(case, piece)]
            wide += width(case, piece)
        self.assertEqual(slots, set_row(case, row), (case, row, places))
        self.assertEqual(wide, width(case, row), (case, row, places))

    def test_some_and_all_cuts(self):
        tried = 0
        for case, row in picked(400, 3, 9):
            told = cuts(case, row)
            for number in range(len(told) + 1):
                for places in itertools.combinations(told, number):
                    self.assert_pieces(case, row, places)
                    tried += 1
        self.assertGreater(tried, 2000)

    def test_long_rows(self):
        for case, row in picked(200, 4, 60):
            told = cuts(case, row)
            for places in (told, told[::2], told[1::3], told[:1], told[-1:]):
                self.assert_pieces(case, row, places)

    def test_cuts_of_a_piece_are_those_of_the_row(self):
        for case, row in picked(300, 6, 14):
            told = cuts(case, row)
            for place in told:
                self.assertEqual(cuts(case, row[:place]), [one for one in told if one < place])
                self.assertEqual(cuts(case, row[place:]), [one - place for one in told if one > place])

    def test_by_hand(self):
        case = ([[rule([], [1, 2], [], [9])], [rule([9], [3], [], [8, 8])]], {9: 15}, {(8, 4): 2})
        row = [0, 1, 2, 3, 4, 1, 2]
        self.assertEqual(cuts(case, row), [1, 5])
        self.assertEqual(width(case, row), 10 + (15 + 20 + 2 + 10) + 15)
        self.assertEqual([width(case, piece) for piece in (row[:1], row[1:5], row[5:])], [10, 47, 15])
        for places in ([1], [5], [1, 5], []):
            self.assert_pieces(case, row, places)


class TheAskersOwn(unittest.TestCase):
    """Point 1: what is told may be changed, and what was handed in too; nothing hangs on it."""

    def test_what_is_told_may_be_changed(self):
        for case in (([], {}, {}), ([[rule([], [1, 2], [], [9])]], {9: 7}, {(9, 3): 2})):
            for row in ([], [1], [4, 1, 2, 3, 4]):
                told = cuts(case, row)
                kept = list(told)
                told.append("more")
                told.reverse()
                self.assertEqual(cuts(case, row), kept)
                told.clear()
                self.assertEqual(cuts(case, row), kept)

    def test_no_two_lists_are_one(self):
        row = [1, 2]
        told = [cuts(([], {}, {}), one) for one in (row, row, [], [])]
        for one, other in itertools.combinations(told + [row], 2):
            self.assertIsNot(one, other)

    def test_what_was_handed_in_may_be_changed(self):
        row = [4, 1, 2, 3]
        case = ([[rule([], [1, 2], [], [9])]], {}, {(9, 3): 2})
        told = cuts(case, row)
        self.assertEqual(told, [1])
        case[2].clear()
        self.assertEqual((cuts(case, row), bar(case, row, 3)), ([1, 3], None))
        case[0][0].insert(0, rule([4], [1], [], [1]))
        self.assertEqual((cuts(case, row), bar(case, row, 1)), ([2, 3], ("rule", 0, 1, 0)))
        row.insert(0, 5)
        self.assertEqual((cuts(case, row), bar(case, row, 2)), ([1, 3, 4], ("rule", 0, 2, 0)))
        case[0].clear()
        self.assertEqual((cuts(case, row), bar(case, row, 2)), ([1, 2, 3, 4], None))
        self.assertEqual(told, [1])


if __name__ == "__main__":
    unittest.main()
