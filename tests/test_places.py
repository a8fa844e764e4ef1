import unittest

from rooms import SIXTY, all_rooms, first_by_trying, room
from stow.places import first_place, spots_for

BOUNDS = (1, 2, 3, 4, 5, 7, 8, 9, 16, 100, SIXTY)


class Promise15(unittest.TestCase):
    def test_a_place_that_is_the_pieces_first_cell(self):
        for piece, long, bound in (((0, 3, False), 3, 1), ((4, 9, False), 3, 1), ((1, 3, False), 3, 2),
                                   ((2, 4, False), 3, 3), ((7, 5, False), 5, 8), ((99, 3, False), 3, 100)):
            with self.subTest(piece=piece, long=long, bound=bound):
                self.assertEqual(first_place(piece, long, bound), piece[0])

    def test_a_place_that_is_further_on(self):
        for piece, long, bound, place in (((0, 4, False), 3, 2, 1), ((0, 9, False), 3, 3, 2), ((2, 5, False), 4, 2, 3),
                                          ((3, 5, False), 3, 3, 5), ((8, 10, False), 3, 8, 15), ((0, 102, False), 3, 100, 99)):
            with self.subTest(piece=piece, long=long, bound=bound):
                self.assertEqual(first_place(piece, long, bound), place)

    def test_no_place(self):
        for piece, long, bound in (((0, 2, False), 3, 1), ((0, 1, False), 3, 1), ((0, 3, False), 3, 2),
                                   ((2, 4, False), 4, 2), ((3, 4, False), 3, 3), ((8, 9, False), 3, 8),
                                   ((0, 101, False), 3, 100), ((0, 400, False), 3, 401), ((0, 400, False), 3, SIXTY),
                                   ((0, 400, False), SIXTY, 1), ((0, 400, False), SIXTY, SIXTY)):
            with self.subTest(piece=piece, long=long, bound=bound):
                self.assertIsNone(first_place(piece, long, bound))

    def test_a_piece_that_just_suffices_and_one_of_a_cell_less(self):
        for bound in (1, 2, 3, 8):
            for at in range(20):
                for long in (3, 4, 10):
                    ahead = [p for p in range(at, at + bound) if (p + 1) % bound == 0][0] - at
                    self.assertEqual(first_place((at, ahead + long, False), long, bound), at + ahead)
                    self.assertIsNone(first_place((at, ahead + long - 1, False), long, bound))

    def test_every_small_piece_as_trying_tells(self):
        for at in range(10):
            for has in range(1, 14):
                for long in range(3, 8):
                    for bound in BOUNDS:
                        piece = (at, has, False)
                        self.assertEqual(first_place(piece, long, bound), first_by_trying(piece, long, bound))

    def test_a_room_with_several_free_pieces(self):
        cells = room("f2 l3 f5 l4 f3 l3 f9")
        for long, bound, spots in (
            (3, 1, [(5, 5), (14, 14), (20, 20)]), (4, 1, [(5, 5), (20, 20)]), (6, 1, [(20, 20)]), (9, 1, [(20, 20)]),
            (10, 1, []), (3, 2, [(5, 5), (20, 21)]), (3, 3, [(5, 5), (14, 14), (20, 20)]), (5, 3, [(5, 5), (20, 20)]),
            (3, 4, [(5, 7), (20, 23)]), (4, 4, [(20, 23)]), (7, 4, []), (3, 15, [(14, 14)]), (3, 27, [(20, 26)]),
            (3, 28, []), (3, 30, []), (3, 400, []), (3, SIXTY, []), (SIXTY, 1, []),
        ):
            with self.subTest(long=long, bound=bound):
                self.assertEqual(spots_for(cells, long, bound), spots)

    def test_live_pieces_are_not_told(self):
        self.assertEqual(spots_for(room("l5"), 3, 1), [])
        self.assertEqual(spots_for(room("l9 f3 l9"), 3, 1), [(9, 9)])

    def test_free_pieces_side_by_side_are_told_each_by_itself(self):
        self.assertEqual(spots_for(room("f3 f3"), 3, 1), [(0, 0), (3, 3)])
        self.assertEqual(spots_for(room("f2 f2"), 3, 1), [])

    def test_every_short_room_as_trying_tells(self):
        for pieces, cells in all_rooms(8):
            for long in (3, 4, 5):
                for bound in (1, 2, 3, 9, SIXTY):
                    tried = [(piece[0], first_by_trying(piece, long, bound)) for piece in pieces if not piece[2]]
                    self.assertEqual(spots_for(cells, long, bound), [spot for spot in tried if spot[1] is not None])

    def test_kinds(self):
        told = spots_for(room("f9"), 3, 2)
        self.assertIs(type(told), list)
        self.assertIs(type(told[0]), tuple)


class Promise2(unittest.TestCase):
    def test_cells_handed_in_stay_and_what_is_told_is_the_askers_own(self):
        cells = room("f4 l3 f5")
        told = spots_for(cells, 3, 2)
        self.assertEqual(cells, room("f4 l3 f5"))
        told.append((0, 0))
        told[0] = None
        self.assertEqual(spots_for(cells, 3, 2), [(0, 1), (7, 7)])
        kept = spots_for(cells, 3, 2)
        cells.clear()
        self.assertEqual(kept, [(0, 1), (7, 7)])


if __name__ == "__main__":
    unittest.main()
