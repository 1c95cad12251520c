import itertools
import unittest

from inkmelt.errors import InkError, NoNote
from inkmelt.notes import read, shown
from plain import Picker, rule

# Rules and how they are written.
WRITTEN = (
    (rule([4], [1, 2], [3], [9, 9]), "4 [1 2] 3>9 9"),
    (rule([], [1], [], [2]), "[1]>2"),
    (rule([], [0], [], [0]), "[0]>0"),
    (rule([0], [0], [0], [0]), "0 [0] 0>0"),
    (rule([1], [2], [], [3]), "1 [2]>3"),
    (rule([], [2], [1], [3]), "[2] 1>3"),
    (rule([], [1, 2], [], [3]), "[1 2]>3"),
    (rule([], [1], [], [2, 3]), "[1]>2 3"),
    (rule([999], [999], [999], [999]), "999 [999] 999>999"),
    (rule([10], [100], [20], [200]), "10 [100] 20>200"),
    (rule([1, 2, 3], [4, 5, 6, 7], [8, 9, 10], [11, 12, 13]), "1 2 3 [4 5 6 7] 8 9 10>11 12 13"),
    (rule([999] * 3, [999] * 4, [999] * 3, [999] * 3), "999 999 999 [999 999 999 999] 999 999 999>999 999 999"),
)


class Shown(unittest.TestCase):
    def test_by_hand(self):
        for one, text in WRITTEN:
            self.assertEqual(shown(one), text)
            self.assertIs(type(shown(one)), str)

    def test_each_shape(self):
        for shape in range(1000):
            figures = str(shape)
            self.assertEqual(shown(rule([shape], [shape], [shape], [shape])),
                             figures + " [" + figures + "] " + figures + ">" + figures)

    def test_order_of_shapes(self):
        self.assertEqual(shown(rule([3, 1, 2], [6, 4, 5], [9, 7, 8], [12, 10, 11])),
                         "3 1 2 [6 4 5] 9 7 8>12 10 11")


class Read(unittest.TestCase):
    def test_by_hand(self):
        for one, text in WRITTEN:
            self.assertEqual(read(text), one)

    def test_kinds(self):
        for _, text in WRITTEN:
            told = read(text)
            self.assertIs(type(told), tuple)
            self.assertEqual([type(part) for part in told], [tuple] * 4)
            self.assertEqual({type(shape) for part in told for shape in part}, {int})

    def test_each_shape(self):
        for shape in range(1000):
            figures = str(shape)
            self.assertEqual(read(figures + " [" + figures + "] " + figures + ">" + figures),
                             rule([shape], [shape], [shape], [shape]))

    def test_each_number_of_shapes_is_read_to_the_same_rule(self):
        for numbers in itertools.product(range(4), range(1, 5), range(4), range(1, 4)):
            shapes = itertools.count(7, 90)
            one = tuple(tuple(next(shapes) % 1000 for _ in range(number)) for number in numbers)
            self.assertEqual(read(shown(one)), one)

    def test_picked_rules_are_read_to_the_same_rule(self):
        picker = Picker(9)
        for _ in range(2000):
            one = picker.rule(1000)
            self.assertEqual(read(shown(one)), one)


class NoNotes(unittest.TestCase):
    def assert_no_note(self, text):
        with self.subTest(text[:80]):
            with self.assertRaises(NoNote) as caught:
                read(text)
            self.assertIs(type(caught.exception), NoNote)
            self.assertIsInstance(caught.exception, InkError)

    def assert_no_notes(self, *texts):
        for text in texts:
            self.assert_no_note(text)

    def test_empty_text_and_blanks(self):
        self.assert_no_notes("", " ", "  ", " " * 200)

    def test_nought_ahead(self):
        self.assert_no_notes("04 [1 2] 3>9 9", "4 [01 2] 3>9 9", "4 [1 02] 3>9 9", "4 [1 2] 03>9 9",
                             "4 [1 2] 3>09 9", "4 [1 2] 3>9 09", "[00]>0", "[0]>00", "[007]>1", "[0999]>1", "[1]>000")

    def test_blank_too_many(self):
        text = "4 5 [1 2] 3 6>9 8"
        self.assertEqual(read(text), rule([4, 5], [1, 2], [3, 6], [9, 8]))
        for at in range(len(text) + 1):
            self.assert_no_note(text[:at] + " " + text[at:])

    def test_blank_too_few(self):
        # Those between shapes of one figure each make another shape of them, so they stand between longer ones.
        text = "444 555 [111 222] 333 666>999 888"
        for at, sign in enumerate(text):
            if sign == " ":
                self.assert_no_note(text[:at] + text[at + 1:])
        self.assert_no_notes("4[1]>2", "[1]3>2", "4 5[1]>2", "[1]3 5>2")

    def test_shapes_that_are_grown_together_are_another_shape(self):
        self.assertEqual(read("45 [12] 36>98"), rule([45], [12], [36], [98]))

    def test_sign_that_does_not_belong(self):
        text = "4 [1 2] 3>9 9"
        for sign in [chr(code) for code in range(32, 127)]:
            if sign in "0123456789":
                continue
            for at in range(len(text) + 1):
                self.assert_no_note(text[:at] + sign + text[at:])
            for at, old in enumerate(text):
                if old != sign:
                    self.assert_no_note(text[:at] + sign + text[at + 1:])

    def test_sign_that_is_missing(self):
        text = "4 [1] 3>9"
        for at in range(len(text)):
            self.assert_no_note(text[:at] + text[at + 1:])
            self.assert_no_note(text[:at])
        for at in range(3, len(text)):
            self.assert_no_note(text[at:])

    def test_signs_in_another_order(self):
        self.assert_no_notes("]1[>2", "[1>2]", ">[1]2", "1 ]2[ 3>4", "[1]2>", "2>[1]", "[[1]]>2", "[1]>>2", "[1]]>2",
                             "[1>2>3", "[1[2[3", "]1]2]3", "1 >2] 3[4", "[1]>2 [1]>2", "[1]>2[1]>2", "[1]>2>3")

    def test_numbers_that_are_written_otherwise(self):
        self.assert_no_notes("[+1]>2", "[-1]>2", "[-0]>2", "[1_0]>2", "[1.0]>2", "[1e2]>2", "[0x1]>2", "[1,2]>3",
                             "[a]>2", "-4 [1]>2", "[1]>-2", "[1] -3>2", "[1]>+2")

    def test_signs_beyond_those_of_texts(self):
        self.assert_no_notes("[1]>2\n", "\n[1]>2", "[1\t2]>3", "[1\n2]>3", "\t[1]>2", "4\t[1]>2", "[1]\t3>2",
                             "[\u0661]>2", "[\u00b2]>2", "[1]>\uff12", "4\u00a0[1]>2", "[1]>%2")

    def test_too_many_shapes(self):
        self.assert_no_notes("1 2 3 4 [1]>1", "[1 2 3 4 5]>1", "[1] 1 2 3 4>1", "[1]>1 2 3 4")
        for more in range(1, 20):
            self.assert_no_notes("1 " * (3 + more) + "[1]>1", "[1" + " 1" * (3 + more) + "]>1",
                                 "[1]" + " 1" * (3 + more) + ">1", "[1]>1" + " 1" * (2 + more))

    def test_too_few_shapes(self):
        self.assert_no_notes("[]>1", "[1]>", "[]>", "4 []>1", "[] 3>1", "4 [] 3>1", "4 [1] 3>", "4 [1 2] 3>")

    def test_shape_above_999(self):
        for text in ("{} [1]>1", "[{}]>1", "[1] {}>1", "[1]>{}", "1 {} 1 [1]>1", "[1 1 1 {}]>1", "[1] 1 1 {}>1",
                     "[1]>1 1 {}"):
            read(text.format(999))
            for shape in (1000, 1001, 9999, 10000, 10 ** 30, 10 ** 180):
                self.assert_no_note(text.format(shape))

    def test_long_texts(self):
        self.assert_no_notes("1" * 200, "[1]>1" * 40, "[" * 200, "[1]>" + "0" * 196, "[1]>" + " " * 195 + "1",
                             "[1]>" + "9" * 5000, "[" + "1 " * 3000 + "1]>1")

    def test_all_short_texts(self):
        """Each text of few signs is either refused, or the very one in which its rule is written."""
        told = []
        for length in range(7):
            for signs in itertools.product(" 01[]>", repeat=length):
                text = "".join(signs)
                try:
                    one = read(text)
                except NoNote:
                    continue
                self.assertEqual(shown(one), text)
                told.append(text)
        takes = ["0", "1", "10", "11"]
        expected = ["[" + take + "]>" + give for take in takes for give in takes if len(take + give) < 4]
        self.assertEqual(sorted(told), sorted(expected))


class NothingIsKept(unittest.TestCase):
    def test_asked_again(self):
        for one, text in WRITTEN + WRITTEN:
            self.assertEqual(read(shown(read(text))), one)


if __name__ == "__main__":
    unittest.main()
