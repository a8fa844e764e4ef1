import itertools
import unittest

from stow.errors import Broken, NoSize, StowError
from stow.looks import first_bad, fresh_room, looked

MANY_FIGURES = 10 ** 60 + 1
GOOD = (
    ([], []),
    ([2], [(0, 1, False)]),
    ([4, 4], [(0, 2, False)]),
    ([6, 0, 6], [(0, 3, False)]),
    ([12, 1, 2, 3, 4, 12], [(0, 6, False)]),
    ([7, 0, 7], [(0, 3, True)]),
    ([9, 5, -5, 9], [(0, 4, True)]),
    ([13, 0, 0, 0, 0, 13], [(0, 6, True)]),
    ([2, 2, 4, 4], [(0, 1, False), (1, 1, False), (2, 2, False)]),
    ([2, 7, 0, 7, 4, 4], [(0, 1, False), (1, 3, True), (4, 2, False)]),
    ([7, 1, 7, 7, 2, 7], [(0, 3, True), (3, 3, True)]),
)
# Holders' cells, and a free piece's cells between its marks, that look like marks.
LOOK_ALIKE = (
    ([7, 7, 7], [(0, 3, True)]),
    ([7, 2, 7], [(0, 3, True)]),
    ([11, 7, 0, 7, 11], [(0, 5, True)]),
    ([11, 11, 11, 11, 11], [(0, 5, True)]),
    ([13, 2, 4, 4, 2, 13], [(0, 6, True)]),
    ([9, MANY_FIGURES, -MANY_FIGURES, 9, 2], [(0, 4, True), (4, 1, False)]),
    ([10, 7, 0, 7, 10], [(0, 5, False)]),
    ([8, 8, 8, 8, 2], [(0, 4, False), (4, 1, False)]),
)
# Each way in which a cell cannot be, as the cells and the first bad one.
BAD = (
    # a long below 1
    ([0], 0), ([1], 0), ([0, 0, 0], 0), ([1, 0, 1], 0), ([-1], 0), ([-2], 0), ([-6, 0, -6], 0),
    ([-5, 0, -5], 0), ([-MANY_FIGURES, 0, 0], 0),
    # a long that goes beyond the last cell
    ([4], 0), ([6, 6], 0), ([8, 0, 8], 0), ([9, 0, 9], 0), ([9, 0, 0], 0), ([7, 7], 0),
    ([MANY_FIGURES, 0, MANY_FIGURES], 0), ([MANY_FIGURES + 1], 0),
    # a live one's below 3
    ([3], 0), ([3, 3, 3], 0), ([5, 5], 0), ([5, 5, 5], 0), ([5, 0, 2], 0),
    # a last cell unlike the first
    ([4, 5], 1), ([4, 0], 1), ([4, 2], 1), ([6, 0, 7], 2), ([6, 6, 0], 2), ([7, 0, 6], 2), ([7, 7, 0], 2),
    ([9, 9, 9, -9], 3), ([10, 10, 10, 10, MANY_FIGURES], 4), ([7, 0, 9, 9], 2),
    ([4, 0, 0, 0], 1), ([6, 0, 0, 0, 0], 2),
)
AHEAD = ([2], [4, 4], [7, 0, 7], [2, 2], [6, 1, 6, 9, 7, 7, 9, 2], [9, 4, 4, 9, 4, 4])


def tilings(cells, at):
    """All ways to part the cells from at on into pieces, found by trying every long, not by reading marks."""
    if at == len(cells):
        return [[]]
    found = []
    for long in range(1, len(cells) - at + 1):
        for live in (False, True):
            mark = 2 * long + 1 if live else 2 * long
            if (long >= 3 or not live) and cells[at] == mark and cells[at + long - 1] == mark:
                found += [[(at, long, live)] + rest for rest in tilings(cells, at + long)]
    return found


class Promise6(unittest.TestCase):
    def test_pieces_are_told(self):
        for cells, pieces in GOOD:
            with self.subTest(cells=cells):
                self.assertEqual(looked(cells), pieces)
                self.assertIsNone(first_bad(cells))

    def test_cells_between_marks_may_look_like_marks(self):
        for cells, pieces in LOOK_ALIKE:
            with self.subTest(cells=cells):
                self.assertEqual(looked(cells), pieces)
                self.assertIsNone(first_bad(cells))

    def test_a_piece_is_a_tuple_of_two_numbers_and_a_truth(self):
        told = looked([2, 7, 0, 7])
        self.assertIs(type(told), list)
        for piece in told:
            self.assertEqual([type(part) for part in piece], [int, int, bool])
            self.assertIs(type(piece), tuple)

    def test_a_room_of_400_cells(self):
        cells = [2] * 100 + [801 - 400] + [7] * 198 + [401] + [200] + [0] * 98 + [200]
        pieces = [(at, 1, False) for at in range(100)] + [(100, 200, True), (300, 100, False)]
        self.assertEqual(len(cells), 400)
        self.assertEqual(looked(cells), pieces)
        self.assertEqual(looked([801] + [2] * 398 + [801]), [(0, 400, True)])


class Promise7(unittest.TestCase):
    def assert_bad(self, cells, bad):
        self.assertEqual(first_bad(cells), bad)
        with self.assertRaises(Broken) as taken:
            looked(cells)
        self.assertEqual(taken.exception.cell, bad)

    def test_a_row_without_cells_has_no_pieces(self):
        self.assertEqual(looked([]), [])
        self.assertIsNone(first_bad([]))

    def test_each_way_in_which_a_cell_cannot_be(self):
        for cells, bad in BAD:
            with self.subTest(cells=cells):
                self.assert_bad(cells, bad)

    def test_the_same_behind_good_pieces(self):
        for ahead in AHEAD:
            for cells, bad in BAD:
                with self.subTest(ahead=ahead, cells=cells):
                    self.assert_bad(ahead + cells, len(ahead) + bad)

    def test_good_pieces_behind_do_not_mend_what_cannot_be(self):
        self.assert_bad([0, 2, 2], 0)
        self.assert_bad([5, 5, 2, 2], 0)
        self.assert_bad([6, 0, 0, 2, 2], 2)

    def test_a_long_that_just_reaches_the_last_cell(self):
        self.assertIsNone(first_bad([2, 8, 0, 0, 8]))
        self.assert_bad([2, 10, 0, 0, 10], 1)

    def test_all_short_rows_as_tiling_tells(self):
        for count in range(6):
            for row in itertools.product((0, 2, 3, 4, 5, 6, 7, 8, 9), repeat=count):
                cells = list(row)
                found = tilings(cells, 0)
                if found:
                    self.assertEqual([looked(cells)], found)
                    self.assertIsNone(first_bad(cells))
                else:
                    self.assert_bad(cells, first_bad(cells))
                    self.assertIn(first_bad(cells), range(count))

    def test_cells_ahead_of_the_first_bad_one_can_be(self):
        # Where a first cell is bad, the cells ahead of it are a whole room.
        for row in itertools.product((0, 2, 4, 5, 6, 7), repeat=5):
            cells = list(row)
            bad = first_bad(cells)
            if bad is not None and not tilings(cells[:bad], 0):
                begun = [at for at in range(bad) if tilings(cells[:at], 0)][-1]
                self.assertEqual(begun + cells[begun] // 2 - 1, bad)
                self.assertNotEqual(cells[begun], cells[bad])


class Promise2(unittest.TestCase):
    def test_cells_handed_in_stay_as_they_were(self):
        rows = [cells for cells, told in GOOD + LOOK_ALIKE + BAD]
        for cells in rows:
            kept = list(cells)
            first_bad(cells)
            try:
                looked(cells)
            except Broken:
                pass
            self.assertEqual(cells, kept)

    def test_a_told_list_is_the_askers_own(self):
        cells = [2, 7, 0, 7]
        told = looked(cells)
        told.append((9, 9, True))
        told[0] = None
        self.assertEqual(looked(cells), [(0, 1, False), (1, 3, True)])
        self.assertEqual(cells, [2, 7, 0, 7])

    def test_what_was_told_stays_when_the_cells_change(self):
        cells = [2, 7, 0, 7]
        told = looked(cells)
        cells[0] = 0
        cells.clear()
        self.assertEqual(told, [(0, 1, False), (1, 3, True)])

    def test_the_told_list_of_no_cells_is_the_askers_own(self):
        looked([]).append(1)
        self.assertEqual(looked([]), [])


class Promise8(unittest.TestCase):
    def test_fresh_rooms(self):
        for count, cells in ((1, [2]), (2, [4, 4]), (3, [6, 0, 6]), (5, [10, 0, 0, 0, 10])):
            with self.subTest(count=count):
                self.assertEqual(fresh_room(count), cells)

    def test_a_fresh_room_of_400_cells(self):
        self.assertEqual(fresh_room(400), [800] + [0] * 398 + [800])

    def test_a_fresh_room_is_one_free_piece(self):
        for count in range(1, 402):
            self.assertEqual(looked(fresh_room(count)), [(0, count, False)])

    def test_fewer_cells_than_one_are_refused(self):
        for count in (0, -1, -2, -400, -MANY_FIGURES):
            with self.subTest(count=count):
                self.assertRaises(NoSize, fresh_room, count)
                self.assertRaises(StowError, fresh_room, count)

    def test_each_fresh_room_is_a_list_of_its_own(self):
        for count in (1, 2, 5):
            room = fresh_room(count)
            room[0] = 99
            room.append(7)
            other = fresh_room(count)
            self.assertIs(type(other), list)
            self.assertEqual(looked(other), [(0, count, False)])


if __name__ == "__main__":
    unittest.main()
