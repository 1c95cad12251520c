import copy
import itertools
import unittest

from inkmelt.setting import doings, passed, set_row
from plain import done_of, picked, rule, slots_of


class PassCase(unittest.TestCase):
    def assert_pass(self, rules, shapes, done, new):
        before = copy.deepcopy((rules, shapes))
        self.assertEqual(doings(rules, shapes), done)
        self.assertEqual(passed(rules, shapes), new)
        self.assertEqual((rules, shapes), before)


class Passes(PassCase):
    def test_without_rules(self):
        self.assert_pass([], [], [], [])
        self.assert_pass([], [1, 2, 3], [], [1, 2, 3])

    def test_without_shapes(self):
        self.assert_pass([rule([], [1], [], [2])], [], [], [])
        self.assert_pass([rule([1], [1], [1], [2])], [], [], [])

    def test_no_rule_fits(self):
        self.assert_pass([rule([], [9], [], [2])], [1, 2, 3], [], [1, 2, 3])

    def test_kinds(self):
        rules = [rule([], [1], [], [2])]
        for told in (doings(rules, [1]), passed(rules, [1]), passed([], [1]), doings([], []), passed([], [])):
            self.assertIs(type(told), list)
        self.assertIs(type(doings(rules, [1])[0]), tuple)

    def test_first_and_last_place(self):
        rules = [rule([], [1], [], [7])]
        self.assert_pass(rules, [1, 2, 3], [(0, 0)], [7, 2, 3])
        self.assert_pass(rules, [3, 2, 1], [(2, 0)], [3, 2, 7])
        self.assert_pass(rules, [1], [(0, 0)], [7])
        self.assert_pass(rules, [1, 2, 1], [(0, 0), (2, 0)], [7, 2, 7])

    def test_longer_takes_at_both_ends(self):
        rules = [rule([], [1, 2], [], [7])]
        self.assert_pass(rules, [1, 2, 3, 1, 2], [(0, 0), (3, 0)], [7, 3, 7])
        self.assert_pass(rules, [1, 2], [(0, 0)], [7])
        self.assert_pass(rules, [2, 3, 1], [], [2, 3, 1])

    def test_take_that_reaches_over_the_end(self):
        self.assert_pass([rule([], [1, 1], [], [7])], [1, 1, 1], [(0, 0)], [7, 1])
        self.assert_pass([rule([], [1, 2, 3, 4], [], [7])], [1, 2, 3], [], [1, 2, 3])

    def test_give_is_put_in_its_order(self):
        self.assert_pass([rule([], [1], [], [7, 8, 9])], [5, 1, 6], [(1, 0)], [5, 7, 8, 9, 6])
        self.assert_pass([rule([], [1, 2, 3, 4], [], [9, 8])], [1, 2, 3, 4, 5], [(0, 0)], [9, 8, 5])

    def test_bounds_of_shapes(self):
        self.assert_pass([rule([0], [999], [0], [0, 999])], [0, 999, 0], [(1, 0)], [0, 0, 999, 0])

    def test_given_shapes_are_not_taken_in_the_same_pass(self):
        self.assert_pass([rule([], [1], [], [1, 1])], [1, 1], [(0, 0), (1, 0)], [1, 1, 1, 1])
        self.assert_pass([rule([], [1], [], [2]), rule([], [2], [], [3])], [1, 2], [(0, 0), (1, 1)], [2, 3])


class BehindAndAhead(PassCase):
    def test_behind(self):
        rules = [rule([4], [1], [], [7])]
        self.assert_pass(rules, [4, 1, 1], [(1, 0)], [4, 7, 1])
        self.assert_pass(rules, [1, 4], [], [1, 4])

    def test_last_shape_of_behind_is_nearest(self):
        rules = [rule([4, 5, 6], [1], [], [7])]
        self.assert_pass(rules, [4, 5, 6, 1], [(3, 0)], [4, 5, 6, 7])
        self.assert_pass(rules, [6, 5, 4, 1], [], [6, 5, 4, 1])

    def test_first_shape_of_ahead_is_nearest(self):
        rules = [rule([], [1], [4, 5, 6], [7])]
        self.assert_pass(rules, [1, 4, 5, 6], [(0, 0)], [7, 4, 5, 6])
        self.assert_pass(rules, [1, 6, 5, 4], [], [1, 6, 5, 4])

    def test_ahead_stands_right_behind_the_take(self):
        rules = [rule([], [1, 2], [3], [7])]
        self.assert_pass(rules, [1, 2, 3], [(0, 0)], [7, 3])
        self.assert_pass(rules, [1, 3, 2], [], [1, 3, 2])
        self.assert_pass(rules, [1, 2, 4, 3], [], [1, 2, 4, 3])

    def test_ahead_is_not_taken(self):
        self.assert_pass([rule([], [1], [1], [7])], [1, 1, 1], [(0, 0), (1, 0)], [7, 7, 1])

    def test_behind_over_the_beginning(self):
        self.assert_pass([rule([4], [1], [], [7])], [1], [], [1])
        self.assert_pass([rule([4, 5], [1], [], [7])], [5, 1], [], [5, 1])
        self.assert_pass([rule([4, 5, 6], [1], [], [7])], [5, 6, 1], [], [5, 6, 1])

    def test_behind_is_not_looked_for_at_the_end_of_the_row(self):
        self.assert_pass([rule([4], [1], [], [7])], [1, 4], [], [1, 4])
        self.assert_pass([rule([1], [1], [], [7])], [1], [], [1])
        self.assert_pass([rule([1, 1], [1], [], [7])], [1, 1, 1, 1], [(2, 0), (3, 0)], [1, 1, 7, 7])
        self.assert_pass([rule([4, 5], [1], [], [7])], [1, 4, 5], [], [1, 4, 5])
        self.assert_pass([rule([4, 5], [1], [], [7])], [5, 1, 4], [], [5, 1, 4])

    def test_ahead_over_the_end(self):
        self.assert_pass([rule([], [1], [4], [7])], [1], [], [1])
        self.assert_pass([rule([], [1], [4, 5], [7])], [1, 4], [], [1, 4])
        self.assert_pass([rule([], [1], [4, 5, 6], [7])], [1, 4, 5], [], [1, 4, 5])
        self.assert_pass([rule([], [1], [4], [7])], [4, 1], [], [4, 1])

    def test_both(self):
        rules = [rule([4, 4], [1, 1], [5, 5], [7])]
        self.assert_pass(rules, [4, 4, 1, 1, 5, 5], [(2, 0)], [4, 4, 7, 5, 5])
        self.assert_pass(rules, [4, 1, 1, 5, 5], [], [4, 1, 1, 5, 5])
        self.assert_pass(rules, [4, 4, 1, 1, 5], [], [4, 4, 1, 1, 5])

    def test_behind_is_looked_for_among_shapes_just_taken(self):
        self.assert_pass([rule([1], [2], [], [8]), rule([], [1], [], [7])], [1, 2], [(0, 1), (1, 0)], [7, 8])
        self.assert_pass([rule([1, 1], [2], [], [8]), rule([], [1, 1], [], [7])],
                         [1, 1, 2], [(0, 1), (2, 0)], [7, 8])
        self.assert_pass([rule([1], [1], [], [7])], [1, 1, 1], [(1, 0), (2, 0)], [1, 7, 7])

    def test_behind_is_not_looked_for_among_shapes_just_given(self):
        self.assert_pass([rule([7], [2], [], [8]), rule([], [1], [], [7])], [1, 2], [(0, 1)], [7, 2])

    def test_ahead_is_looked_for_in_the_row_of_the_beginning(self):
        self.assert_pass([rule([], [1], [2], [7]), rule([], [2], [], [8])], [1, 2], [(0, 0), (1, 1)], [7, 8])
        self.assert_pass([rule([], [1], [8], [7]), rule([], [2], [], [8])], [1, 2], [(1, 1)], [1, 8])

    def test_places_are_those_of_the_row_of_the_beginning(self):
        rules = [rule([], [1], [], [7, 7, 7]), rule([], [2, 2], [], [8]), rule([2, 2], [3], [], [9])]
        self.assert_pass(rules, [1, 1, 2, 2, 3], [(0, 0), (1, 0), (2, 1), (4, 2)], [7] * 6 + [8, 9])


class WhichRule(PassCase):
    def test_first_that_fits(self):
        self.assert_pass([rule([], [1], [], [7]), rule([], [1], [], [8])], [1], [(0, 0)], [7])
        self.assert_pass([rule([], [1], [], [7]), rule([], [1, 2], [], [8])], [1, 2], [(0, 0)], [7, 2])
        self.assert_pass([rule([], [1, 2], [], [8]), rule([], [1], [], [7])], [1, 2, 1], [(0, 0), (2, 1)], [8, 7])

    def test_later_rule_where_the_first_one_misses_a_part(self):
        rules = [rule([4], [1], [], [6]), rule([], [1], [5], [7]), rule([], [1], [], [8])]
        self.assert_pass(rules, [4, 1, 5], [(1, 0)], [4, 6, 5])
        self.assert_pass(rules, [3, 1, 5], [(1, 1)], [3, 7, 5])
        self.assert_pass(rules, [3, 1, 3], [(1, 2)], [3, 8, 3])

    def test_earlier_place_goes_ahead_of_earlier_rule(self):
        self.assert_pass([rule([], [2, 3], [], [8]), rule([], [1, 2], [], [7])], [1, 2, 3], [(0, 1)], [7, 3])

    def test_last_of_eight(self):
        rules = [rule([], [k], [], [100 + k]) for k in range(8)]
        self.assert_pass(rules, [7, 0, 9], [(0, 7), (1, 0)], [107, 100, 9])

    def test_going_on_behind_the_take(self):
        rules = [rule([], [1, 1], [], [7])]
        self.assert_pass(rules, [1] * 5, [(0, 0), (2, 0)], [7, 7, 1])
        self.assert_pass([rule([], [1] * 4, [], [7, 7])], [1] * 9, [(0, 0), (4, 0)], [7, 7, 7, 7, 1])

    def test_going_on_by_one_where_none_fits(self):
        self.assert_pass([rule([], [1, 2], [], [7])], [1, 1, 2, 2], [(1, 0)], [1, 7, 2])

    def test_rule_without_take_does_not_keep_a_pass_going(self):
        self.assert_pass([rule([], [], [], [7]), rule([], [1], [], [8])], [1, 2], [(0, 1)], [8, 2])

    def test_longer_than_any_row(self):
        self.assert_pass([rule([], [1, 1], [], [7])], [1] * 401, [(2 * k, 0) for k in range(200)], [7] * 200 + [1])


class SettingCase(unittest.TestCase):
    def assert_set(self, passes, row, told):
        case = (passes, {1: 5}, {(1, 2): 3})
        before = copy.deepcopy((case, row))
        self.assertEqual(set_row(case, row), told)
        self.assertEqual((case, row), before)
        self.assert_letters(told, len(row))

    def assert_letters(self, slots, number):
        """What point 6 says of a set row of that many letters."""
        if number == 0:
            self.assertEqual(slots, [])
            return
        self.assertEqual(slots[0][1], 0)
        self.assertEqual(slots[-1][2], number)
        for one, other in zip(slots, slots[1:]):
            self.assertTrue(one[1:] == other[1:] or one[2] == other[1], slots)


class SetRows(SettingCase):
    def test_letters_as_themselves(self):
        self.assert_set([], [5, 0, 999], [(5, 0, 1), (0, 1, 2), (999, 2, 3)])
        self.assert_set([[], []], [5, 5], [(5, 0, 1), (5, 1, 2)])
        self.assert_set([[rule([], [9], [], [8])]], [5], [(5, 0, 1)])

    def test_no_letters(self):
        self.assert_set([], [], [])
        self.assert_set([[]], [], [])
        self.assert_set([[rule([], [1], [], [2])], [rule([], [2], [], [3])]], [], [])

    def test_kinds(self):
        told = set_row(([[rule([], [1, 2], [], [9])]], {}, {}), [1, 2, 3])
        self.assertIs(type(told), list)
        self.assertEqual([type(slot) for slot in told], [tuple, tuple])
        self.assertIs(type(set_row(([], {}, {}), [])), list)

    def test_letters_that_melt(self):
        self.assert_set([[rule([], [1, 2], [], [9])]], [0, 1, 2, 3], [(0, 0, 1), (9, 1, 3), (3, 3, 4)])
        self.assert_set([[rule([], [1, 2, 3, 4], [], [9])]], [1, 2, 3, 4], [(9, 0, 4)])

    def test_letter_that_falls_apart(self):
        self.assert_set([[rule([], [1], [], [7, 8, 9])]], [0, 1, 2],
                        [(0, 0, 1), (7, 1, 2), (8, 1, 2), (9, 1, 2), (2, 2, 3)])

    def test_several_that_become_several(self):
        self.assert_set([[rule([], [1, 2, 3], [], [8, 9])]], [1, 2, 3, 4], [(8, 0, 3), (9, 0, 3), (4, 3, 4)])

    def test_behind_and_ahead_are_no_part_of_the_letters(self):
        self.assert_set([[rule([4], [1], [5], [9])]], [4, 1, 5], [(4, 0, 1), (9, 1, 2), (5, 2, 3)])

    def test_equal_bundles_side_by_side_stay_two(self):
        self.assert_set([[rule([], [1], [], [7, 7])]], [1, 1], [(7, 0, 1), (7, 0, 1), (7, 1, 2), (7, 1, 2)])

    def test_passes_in_turn(self):
        first = [rule([], [1], [], [2])]
        second = [rule([], [2], [], [3])]
        self.assert_set([first, second], [1], [(3, 0, 1)])
        self.assert_set([second, first], [1], [(2, 0, 1)])
        self.assert_set([first, second], [2, 1], [(3, 0, 1), (3, 1, 2)])
        self.assert_set([second, first], [2, 1], [(3, 0, 1), (2, 1, 2)])

    def test_four_passes(self):
        passes = [[rule([], [k], [], [k + 1])] for k in range(4)]
        self.assert_set(passes, [0, 3], [(4, 0, 1), (4, 1, 2)])

    def test_pass_without_rules_among_others(self):
        first = [rule([], [1, 2], [], [3])]
        second = [rule([], [3, 4], [], [5])]
        self.assert_set([[], first, [], second], [1, 2, 4], [(5, 0, 3)])
        self.assert_set([first, [], second, []], [1, 2, 4], [(5, 0, 3)])

    def test_shapes_melted_before_melt_on(self):
        passes = [[rule([], [1, 1], [], [2])], [rule([], [2, 2], [], [3])]]
        self.assert_set(passes, [1] * 6, [(3, 0, 4), (2, 4, 6)])

    def test_new_row_is_that_of_the_next_pass(self):
        passes = [[rule([], [1], [], [2, 3])], [rule([2], [3], [5], [9])]]
        self.assert_set(passes, [1, 5], [(2, 0, 1), (9, 0, 1), (5, 1, 2)])

    def test_widths_and_nears_do_not_count(self):
        passes = [[rule([], [1, 2], [], [9])]]
        self.assertEqual(set_row((passes, {9: 0}, {(9, 9): -1000}), [1, 2]), set_row((passes, {}, {}), [1, 2]))


class Overlaps(SettingCase):
    def test_last_of_a_bundle_melts_with_the_next(self):
        passes = [[rule([], [1], [], [2, 3])], [rule([], [3, 4], [], [9])]]
        self.assert_set(passes, [0, 1, 4, 5], [(0, 0, 1), (2, 1, 3), (9, 1, 3), (5, 3, 4)])

    def test_first_of_a_bundle_melts_with_the_one_ahead(self):
        passes = [[rule([], [1], [], [2, 3])], [rule([], [4, 2], [], [9])]]
        self.assert_set(passes, [0, 4, 1, 5], [(0, 0, 1), (9, 1, 3), (3, 1, 3), (5, 3, 4)])

    def test_all_shapes_of_the_bundle_come_along(self):
        passes = [[rule([], [1], [], [2, 2, 3])], [rule([], [3, 4], [], [8, 9])]]
        self.assert_set(passes, [1, 4], [(2, 0, 2), (2, 0, 2), (8, 0, 2), (9, 0, 2)])

    def test_chain_of_three(self):
        passes = [[rule([], [1], [], [2, 3])], [rule([], [3, 2], [], [9])]]
        self.assert_set(passes, [1, 1], [(2, 0, 2), (9, 0, 2), (3, 0, 2)])
        self.assert_set(passes, [0, 1, 1, 0], [(0, 0, 1), (2, 1, 3), (9, 1, 3), (3, 1, 3), (0, 3, 4)])

    def test_chain_of_many(self):
        passes = [[rule([], [1], [], [2, 3])], [rule([], [3, 2], [], [9])]]
        self.assert_set(passes, [1] * 5, [(2, 0, 5)] + [(9, 0, 5)] * 4 + [(3, 0, 5)])
        self.assert_set(passes, [1] * 60, [(2, 0, 60)] + [(9, 0, 60)] * 59 + [(3, 0, 60)])

    def test_two_chains(self):
        passes = [[rule([], [1], [], [2, 3])], [rule([], [3, 2], [], [9])]]
        self.assert_set(passes, [1, 1, 0, 1, 1, 1],
                        [(2, 0, 2), (9, 0, 2), (3, 0, 2), (0, 2, 3), (2, 3, 6), (9, 3, 6), (9, 3, 6), (3, 3, 6)])

    def test_chains_that_touch_stay_two(self):
        passes = [[rule([], [1], [], [2, 3]), rule([], [4], [], [5, 6])],
                  [rule([], [3, 2], [], [9]), rule([], [6, 5], [], [8])]]
        self.assert_set(passes, [1, 1, 4, 4],
                        [(2, 0, 2), (9, 0, 2), (3, 0, 2), (5, 2, 4), (8, 2, 4), (6, 2, 4)])

    def test_overlap_of_one_pass_is_taken_by_the_next(self):
        passes = [[rule([], [1], [], [2, 3])], [rule([], [3, 4], [], [9])], [rule([], [0, 2], [], [8])]]
        self.assert_set(passes, [0, 1, 4], [(8, 0, 3), (9, 0, 3)])

    def test_whole_bundle_taken_leaves_no_overlap(self):
        passes = [[rule([], [1], [], [2, 3])], [rule([], [2, 3], [], [9])]]
        self.assert_set(passes, [1, 1], [(9, 0, 1), (9, 1, 2)])


class LongRows(SettingCase):
    def test_sixty_letters_as_themselves(self):
        row = [k * 16 for k in range(60)]
        self.assert_set([], row, [(k * 16, k, k + 1) for k in range(60)])

    def test_sixty_letters_in_pairs(self):
        self.assert_set([[rule([], [1, 2], [], [9])]], [1, 2] * 30, [(9, 2 * k, 2 * k + 2) for k in range(30)])

    def test_sixty_letters_that_fall_apart_in_each_pass(self):
        passes = [[rule([], [1], [], [1, 1, 1])] for _ in range(4)]
        self.assert_set(passes, [1] * 60, [(1, k // 81, k // 81 + 1) for k in range(60 * 81)])

    def test_somewhat_more_than_sixty(self):
        self.assert_set([[rule([], [1, 1], [], [9])]], [1] * 70, [(9, 2 * k, 2 * k + 2) for k in range(35)])


class BesideAPlainWay(SettingCase):
    """All short rows of three letters, under rules of all forms, beside another way of working them out."""

    PARTS = ((), (0,), (1,), (0, 1), (1, 1))
    FULL_PARTS = PARTS[1:]

    def rows(self, most):
        for length in range(most + 1):
            for row in itertools.product(range(3), repeat=length):
                yield list(row)

    def test_one_rule(self):
        rows = list(self.rows(5))
        for parts in itertools.product(self.PARTS, self.FULL_PARTS, self.PARTS, ((2,), (0, 1))):
            for row in rows:
                self.compare_pass([parts], row)

    def test_two_rules(self):
        rows = list(self.rows(4))
        some = [rule(behind, take, ahead, take[:1] + (2,))
                for behind in ((), (0,), (2, 1)) for take in ((0,), (1, 2), (0, 0)) for ahead in ((), (1,))]
        for rules in itertools.product(some, repeat=2):
            for row in rows:
                self.compare_pass(list(rules), row)

    def compare_pass(self, rules, row):
        done = done_of(rules, row)
        self.assertEqual(doings(rules, row), done, (rules, row))
        new = []
        at = 0
        for place, number in done + [(len(row), None)]:
            new += row[at:place]
            if number is not None:
                new += rules[number][3]
                at = place + len(rules[number][1])
        self.assertEqual(passed(rules, row), new, (rules, row))

    def test_set_rows(self):
        rows = list(self.rows(5))
        some = ([rule([], [0], [], [1, 2])],
                [rule([], [2, 1], [], [0])],
                [rule([1], [2], [], [0, 0]), rule([], [1, 1], [], [2])],
                [rule([], [2, 0], [1], [1, 0, 1]), rule([], [0, 0], [], [2, 1])],
                [])
        for passes in itertools.product(some, repeat=3):
            for row in rows[::3]:
                told = set_row((list(passes), {}, {}), row)
                self.assertEqual(told, slots_of(passes, row), (passes, row))
                self.assert_letters(told, len(row))

    def test_picked_cases(self):
        for case, row in picked(1500):
            told = set_row(case, row)
            self.assertEqual(told, slots_of(case[0], row), (case, row))
            self.assert_letters(told, len(row))

    def test_one_pass_beside_passed(self):
        rules = [rule([], [0, 1], [], [2, 2]), rule([2], [0], [], [1]), rule([], [1], [1, 1], [0])]
        for row in self.rows(6):
            shapes = [slot[0] for slot in set_row(([rules, rules], {}, {}), row)]
            self.assertEqual(shapes, passed(rules, passed(rules, row)), row)


class TheAskersOwn(unittest.TestCase):
    """Point 1: what is told may be changed, and what was handed in too; nothing hangs on it."""

    def setUp(self):
        self.rules = [rule([], [1, 2], [], [9]), rule([9], [3], [], [8, 8])]
        self.row = [1, 2, 3, 4]
        self.case = ([self.rules, [], [rule([], [8, 4], [], [7])]], {1: 4}, {(9, 4): 2})

    def asked(self):
        return (doings(self.rules, self.row), passed(self.rules, self.row), passed([], self.row),
                doings([], self.row), set_row(self.case, self.row), set_row(([], {}, {}), self.row),
                set_row(([], {}, {}), []), set_row(([[]], {}, {}), []), passed(self.rules, []),
                doings(self.rules, []), passed([], []), doings([], []))

    def test_what_is_told_may_be_changed(self):
        handed = copy.deepcopy((self.rules, self.row, self.case))
        told = self.asked()
        kept = copy.deepcopy(told)
        for one in told:
            one.append("more")
            one.reverse()
        self.assertEqual((self.rules, self.row, self.case), handed)
        self.assertEqual(self.asked(), kept)
        for one in told:
            one.clear()
        self.assertEqual(self.asked(), kept)

    def test_no_two_lists_are_one(self):
        told = self.asked() + self.asked()
        for one, other in itertools.combinations(told, 2):
            self.assertIsNot(one, other)
        for one in told:
            for handed in (self.row, self.rules, self.case[0]):
                self.assertIsNot(one, handed)

    def test_what_was_handed_in_may_be_changed(self):
        told = self.asked()
        kept = copy.deepcopy(told)
        self.row[0] = 5
        self.rules[0] = rule([], [5, 2], [], [6])
        self.case[0][1].append(rule([], [3], [], [0]))
        self.case[1].clear()
        self.case[2].clear()
        self.assertEqual(told, kept)
        self.assertEqual(doings(self.rules, self.row), [(0, 0)])
        self.assertEqual(passed(self.rules, self.row), [6, 3, 4])
        self.assertEqual(set_row(self.case, self.row), [(6, 0, 2), (0, 2, 3), (4, 3, 4)])


if __name__ == "__main__":
    unittest.main()
