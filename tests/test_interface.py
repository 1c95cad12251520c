"""What the document promises over the whole program: names, arguments, and that nothing is changed or kept."""

import copy
import importlib
import inspect
import unittest

from inkmelt.cases import looked
from inkmelt.cuts import bar, cuts
from inkmelt.lines import lines
from inkmelt.notes import shown
from inkmelt.setting import doings, passed, set_row
from inkmelt.widths import carets, width
from plain import picked

FUNCTIONS = {
    "cases": {"looked": ["case"]},
    "setting": {"doings": ["rules", "shapes"], "passed": ["rules", "shapes"], "set_row": ["case", "row"]},
    "widths": {"width": ["case", "row"], "carets": ["case", "row"]},
    "cuts": {"cuts": ["case", "row"], "bar": ["case", "row", "place"]},
    "lines": {"lines": ["case", "row", "measure"]},
    "notes": {"shown": ["rule"], "read": ["text"]},
}


class Names(unittest.TestCase):
    def test_functions_and_arguments(self):
        for module, functions in FUNCTIONS.items():
            held = importlib.import_module("inkmelt." + module)
            for name, arguments in functions.items():
                with self.subTest(module, name=name):
                    told = inspect.signature(getattr(held, name)).parameters
                    self.assertEqual(list(told), arguments)
                    self.assertEqual({one.default for one in told.values()}, {inspect.Parameter.empty})


def asked(case, row):
    """All that can be asked of a case and a row."""
    told = [looked(case), set_row(case, row), width(case, row), carets(case, row), cuts(case, row),
            lines(case, row, 1), lines(case, row, 25), lines(case, row, 100000)]
    told += [bar(case, row, place) for place in range(1, len(row))]
    for rules in case[0]:
        told += [doings(rules, row), passed(rules, row)] + [shown(rule) for rule in rules]
    return told


class NothingIsChangedOrKept(unittest.TestCase):
    def test_answers_hang_on_what_is_handed_in_alone(self):
        asked_before = []
        for case, row in picked(150, 11):
            handed = copy.deepcopy((case, row))
            told = asked(case, row)
            self.assertEqual((case, row), handed)
            asked_before.append((case, row, copy.deepcopy(told)))
            spoil(told)
            self.assertEqual((case, row), handed)
        for case, row, told in asked_before:
            self.assertEqual(asked(case, row), told)
            self.assertEqual(asked(copy.deepcopy(case), list(row)), told)

    def test_case_and_row_that_are_filled_anew(self):
        passes, widths, nears, shared_row = [], {}, {}, []
        for case, row in picked(150, 12):
            passes[:] = case[0]
            widths.clear()
            widths.update(case[1])
            nears.clear()
            nears.update(case[2])
            shared_row[:] = row
            self.assertEqual(asked((passes, widths, nears), shared_row), asked(case, row))

    def test_no_two_lists_are_one(self):
        for case, row in picked(50, 13):
            told = [one for one in asked(case, row) + asked(case, row) if isinstance(one, list)]
            handed = [row, case[0]] + case[0]
            self.assertEqual(len({id(one) for one in told + handed}), len(told) + len(handed))


def spoil(told):
    for one in told:
        if isinstance(one, list):
            one.append("more")
            one.reverse()


if __name__ == "__main__":
    unittest.main()
