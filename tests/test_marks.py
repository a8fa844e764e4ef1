import unittest

from stow.marks import is_whole, live_of, long_of, mark_of

SIXTY = 10 ** 59 + 7
THOUSAND = 10 ** 999 + 3


class Promise2(unittest.TestCase):
    def test_ints_are_whole(self):
        for thing in (0, 1, -1, 2, 400, -400, SIXTY, -SIXTY, THOUSAND, -THOUSAND):
            with self.subTest(thing=thing):
                self.assertIs(is_whole(thing), True)

    def test_truths_are_not_whole(self):
        self.assertIs(is_whole(True), False)
        self.assertIs(is_whole(False), False)

    def test_things_of_other_kinds_are_not_whole(self):
        things = ("", "1", "one", None, [], [1], (), (1,), {}, {1: 1}, 1.0, 0.5, b"1", {1}, int, len, object())
        for thing in things:
            with self.subTest(thing=thing):
                self.assertIs(is_whole(thing), False)

    def test_what_is_asked_of_stays_as_it_was(self):
        things = [[1, [2]], {"a": [1]}]
        for thing in things:
            is_whole(thing)
        self.assertEqual(things, [[1, [2]], {"a": [1]}])


class Promise5(unittest.TestCase):
    def test_marks_of_free_pieces(self):
        for long, mark in ((1, 2), (2, 4), (3, 6), (7, 14), (400, 800)):
            with self.subTest(long=long):
                self.assertEqual(mark_of(long, False), mark)

    def test_marks_of_live_pieces(self):
        for long, mark in ((1, 3), (2, 5), (3, 7), (7, 15), (400, 801)):
            with self.subTest(long=long):
                self.assertEqual(mark_of(long, True), mark)

    def test_a_mark_is_a_whole_number(self):
        for long in (1, 3, 400, SIXTY):
            for live in (True, False):
                self.assertTrue(is_whole(mark_of(long, live)))

    def test_marks_of_very_long_pieces(self):
        for long in (SIXTY, THOUSAND):
            self.assertEqual(mark_of(long, False), 2 * long)
            self.assertEqual(mark_of(long, True), 2 * long + 1)

    def test_nought_tells_a_free_piece_without_cells(self):
        self.assertEqual(long_of(0), 0)
        self.assertIs(live_of(0), False)

    def test_told_back_from_odd_and_even_numbers(self):
        for number, long, live in ((1, 0, True), (2, 1, False), (3, 1, True), (6, 3, False), (7, 3, True),
                                   (800, 400, False), (801, 400, True)):
            with self.subTest(number=number):
                self.assertEqual(long_of(number), long)
                self.assertIs(live_of(number), live)

    def test_told_back_from_numbers_below_nought(self):
        for number, long, live in ((-1, -1, True), (-2, -1, False), (-3, -2, True), (-4, -2, False),
                                   (-7, -4, True), (-800, -400, False), (-801, -401, True)):
            with self.subTest(number=number):
                self.assertEqual(long_of(number), long)
                self.assertIs(live_of(number), live)

    def test_told_back_from_numbers_of_many_figures(self):
        for half in (SIXTY, -SIXTY, THOUSAND, -THOUSAND):
            with self.subTest(half=half):
                self.assertEqual(long_of(2 * half), half)
                self.assertIs(live_of(2 * half), False)
                self.assertEqual(long_of(2 * half + 1), half)
                self.assertIs(live_of(2 * half + 1), True)
                self.assertEqual(long_of(2 * half - 1), half - 1)
                self.assertIs(live_of(2 * half - 1), True)

    def test_what_a_mark_was_made_of_is_told_back(self):
        for long in list(range(1, 402)) + [SIXTY, THOUSAND]:
            for live in (True, False):
                mark = mark_of(long, live)
                self.assertEqual((long_of(mark), live_of(mark)), (long, live))


if __name__ == "__main__":
    unittest.main()
