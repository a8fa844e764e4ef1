import unittest

from rooms import SIXTY, all_rooms, marked, room, run_together
from stow.errors import NoPiece, NoRoom
from stow.looks import looked
from stow.pieces import carried, cut_out, freed, is_joined, joined, laid, piece_at

ROOMS = all_rooms(7)
BESIDE = (-SIXTY, -2, -1, SIXTY)


def begins(pieces, live):
    return [piece[0] for piece in pieces if piece[2] == live]


class Promise9(unittest.TestCase):
    def test_pieces_of_one_cell_of_two_and_of_all(self):
        cells = [90, 91, 92, 93, 94]
        for at, long, live, told in (
            (0, 1, False, [2, 91, 92, 93, 94]), (2, 1, False, [90, 91, 2, 93, 94]), (4, 1, True, [90, 91, 92, 93, 3]),
            (0, 2, False, [4, 4, 92, 93, 94]), (3, 2, True, [90, 91, 92, 5, 5]), (1, 3, True, [90, 7, 92, 7, 94]),
            (1, 3, False, [90, 6, 92, 6, 94]), (0, 5, False, [10, 91, 92, 93, 10]), (0, 5, True, [11, 91, 92, 93, 11]),
        ):
            with self.subTest(at=at, long=long, live=live):
                self.assertEqual(laid(cells, at, long, live), told)

    def test_every_piece_of_a_row(self):
        cells = [-SIXTY, 7, 0, 7, SIXTY, 3, 2]
        for at in range(len(cells)):
            for long in range(1, len(cells) - at + 1):
                for live in (False, True):
                    self.assertEqual(laid(cells, at, long, live), marked(cells, [(at, long, live)]))

    def test_a_row_of_400_cells(self):
        self.assertEqual(laid([0] * 400, 0, 400, True), [801] + [0] * 398 + [801])
        self.assertEqual(laid([0] * 400, 399, 1, False), [0] * 399 + [2])


class Promise10(unittest.TestCase):
    def test_a_free_piece_and_a_live_one(self):
        cells = room("f2 l4 f1 l3")
        self.assertEqual(piece_at(cells, 0), (0, 2, False))
        self.assertEqual(piece_at(cells, 2), (2, 4, True))
        self.assertEqual(piece_at(cells, 6), (6, 1, False))
        self.assertEqual(piece_at(cells, 7), (7, 3, True))

    def test_a_piece_is_a_tuple_of_two_numbers_and_a_truth(self):
        for at in (0, 2):
            piece = piece_at(room("f2 l4"), at)
            self.assertIs(type(piece), tuple)
            self.assertEqual([type(part) for part in piece], [int, int, bool])

    def test_no_piece_begins_there(self):
        cells = room("f2 l4 f1 l3")
        for at in BESIDE + (1, 3, 4, 5, 8, 9, 10, 11, 400):
            with self.subTest(at=at):
                self.assertRaises(NoPiece, piece_at, cells, at)

    def test_no_piece_begins_at_a_holders_cell_that_looks_like_a_mark(self):
        cells = [15, 7, 0, 7, 2, 4, 15]
        for at in range(1, 7):
            self.assertRaises(NoPiece, piece_at, cells, at)

    def test_every_cell_of_every_short_room(self):
        for pieces, cells in ROOMS:
            at_first = {piece[0]: piece for piece in pieces}
            for at in range(-len(cells) - 1, len(cells) + 2):
                if at in at_first:
                    self.assertEqual(piece_at(cells, at), at_first[at])
                else:
                    self.assertRaises(NoPiece, piece_at, cells, at)


class Promise11(unittest.TestCase):
    def test_at_the_free_ones_first_cell_its_end_its_midst_and_all_of_it(self):
        cells = room("l3 f6 l3")
        for place, long, pieces in (
            (3, 4, [(3, 4, True), (7, 2, False)]), (3, 5, [(3, 5, True), (8, 1, False)]),
            (5, 4, [(3, 2, False), (5, 4, True)]), (4, 5, [(3, 1, False), (4, 5, True)]),
            (4, 3, [(3, 1, False), (4, 3, True), (7, 2, False)]), (5, 3, [(3, 2, False), (5, 3, True), (8, 1, False)]),
            (3, 6, [(3, 6, True)]),
        ):
            with self.subTest(place=place, long=long):
                self.assertEqual(cut_out(cells, 3, place, long), marked(cells, pieces))

    def test_a_cell_too_early_or_too_late(self):
        cells = room("f2 f6 f2")
        for place, long in ((1, 3), (1, 7), (6, 3), (3, 6), (2, 7), (8, 3), (0, 3), (-1, 3), (10, 3), (-SIXTY, 3),
                            (SIXTY, 3), (2, SIXTY), (-SIXTY, SIXTY)):
            with self.subTest(place=place, long=long):
                self.assertRaises(NoRoom, cut_out, cells, 2, place, long)

    def test_no_free_piece_begins_there(self):
        cells = room("l3 f6 l3")
        for at in BESIDE + (0, 1, 2, 4, 8, 9, 10, 12, 13):
            for place, long in ((4, 3), (3, 6), (3, 7), (2, 3), (at, 3), (-1, 3), (SIXTY, SIXTY)):
                with self.subTest(at=at, place=place, long=long):
                    self.assertRaises(NoPiece, cut_out, cells, at, place, long)

    def test_every_cut_in_every_short_room(self):
        for pieces, cells in ROOMS:
            for at in range(-1, len(cells) + 1):
                for place in range(-1, len(cells) + 1):
                    for long in range(3, len(cells) + 2):
                        self.check_cut(pieces, cells, at, place, long)

    def check_cut(self, pieces, cells, at, place, long):
        if at not in begins(pieces, False):
            self.assertRaises(NoPiece, cut_out, cells, at, place, long)
            return
        end = at + dict((piece[0], piece[1]) for piece in pieces)[at]
        if not at <= place <= place + long <= end:
            self.assertRaises(NoRoom, cut_out, cells, at, place, long)
            return
        new = [(at, place - at, False), (place, long, True), (place + long, end - place - long, False)]
        new = [piece for piece in new if piece[1] > 0]
        told = cut_out(cells, at, place, long)
        self.assertEqual(told, marked(cells, new))
        self.assertEqual(looked(told), sorted([piece for piece in pieces if piece[0] != at] + new))


class Promise12(unittest.TestCase):
    def test_a_free_one_ahead_behind_on_both_sides_on_none(self):
        for words, at, new in (
            ("l3 l4 l3", 3, (3, 4, False)), ("l4", 0, (0, 4, False)), ("l3 f1 l3", 0, (0, 4, False)),
            ("f2 l4 l3", 2, (0, 6, False)), ("l3 l4 f2", 3, (3, 6, False)), ("f2 l4 f1", 2, (0, 7, False)),
            ("l3 f2 l3 f2 l3", 5, (3, 7, False)), ("f1 l3 l3", 4, (4, 3, False)), ("l3 l3 f1", 0, (0, 3, False)),
        ):
            with self.subTest(words=words, at=at):
                cells = room(words)
                self.assertEqual(freed(cells, at), marked(cells, [new]))

    def test_only_the_free_pieces_right_beside_it_become_one_with_it(self):
        cells = room("f1 f2 l3 f2 f1")
        self.assertEqual(freed(cells, 3), marked(cells, [(1, 7, False)]))

    def test_no_live_piece_begins_there(self):
        cells = room("f2 l4 f1 l3")
        for at in BESIDE + (0, 1, 3, 5, 6, 8, 9, 10, 11):
            with self.subTest(at=at):
                self.assertRaises(NoPiece, freed, cells, at)

    def test_every_cell_of_every_short_room(self):
        for pieces, cells in ROOMS:
            for at in range(-len(cells) - 1, len(cells) + 2):
                if at in begins(pieces, True):
                    self.check_freed(pieces, cells, at)
                else:
                    self.assertRaises(NoPiece, freed, cells, at)

    def check_freed(self, pieces, cells, at):
        k = [piece[0] for piece in pieces].index(at)
        first, last = k, k
        if k > 0 and not pieces[k - 1][2]:
            first = k - 1
        if k + 1 < len(pieces) and not pieces[k + 1][2]:
            last = k + 1
        new = (pieces[first][0], sum(piece[1] for piece in pieces[first:last + 1]), False)
        self.assertEqual(freed(cells, at), marked(cells, [new]))
        self.assertEqual(looked(freed(cells, at)), pieces[:first] + [new] + pieces[last + 1:])


class Promise13(unittest.TestCase):
    def test_rows_at_the_rooms_begin_end_and_midst(self):
        for words, new in (
            ("f1 f1", [(0, 2, False)]), ("f1 f2 f3", [(0, 6, False)]), ("f2 f2 l3", [(0, 4, False)]),
            ("l3 f1 f1 f1", [(3, 3, False)]), ("l3 f2 f1 l3", [(3, 3, False)]), ("f1 f1 f1 f1 f1", [(0, 5, False)]),
            ("f1 f1 l3 f2 f2 f2 l3 f1 f3", [(0, 2, False), (5, 6, False), (14, 4, False)]),
        ):
            with self.subTest(words=words):
                cells = room(words)
                self.assertEqual(joined(cells), marked(cells, new))
                self.assertIs(is_joined(cells), False)
                self.assertIs(is_joined(joined(cells)), True)

    def test_nothing_to_join(self):
        for words in ("f1", "f2", "f7", "l3", "l3 l3", "f1 l3 f2", "l3 f1 l4 f2", "l5 l3 l4"):
            with self.subTest(words=words):
                cells = room(words)
                self.assertEqual(joined(cells), cells)
                self.assertIs(is_joined(cells), True)

    def test_a_row_of_400_free_cells(self):
        self.assertEqual(joined([2] * 400), [800] + [2] * 398 + [800])

    def test_every_short_room(self):
        for pieces, cells in ROOMS:
            new = run_together(pieces)
            self.assertEqual(joined(cells), marked(cells, new))
            self.assertEqual(looked(joined(cells)), new)
            self.assertIs(is_joined(cells), new == pieces)


class Promise14(unittest.TestCase):
    def test_above_and_below_partly_one_on_the_other(self):
        cells = [10, 11, 12, 13, 14, 15]
        for source, goal, count, told in (
            (0, 2, 3, [10, 11, 10, 11, 12, 15]), (2, 0, 3, [12, 13, 14, 13, 14, 15]),
            (0, 1, 5, [10, 10, 11, 12, 13, 14]), (1, 0, 5, [11, 12, 13, 14, 15, 15]),
            (0, 3, 3, [10, 11, 12, 10, 11, 12]), (3, 0, 3, [13, 14, 15, 13, 14, 15]), (4, 1, 1, [10, 14, 12, 13, 14, 15]),
        ):
            with self.subTest(source=source, goal=goal, count=count):
                self.assertEqual(carried(cells, source, goal, count), told)

    def test_no_cells_and_all_of_them(self):
        cells = [10, 11, 12]
        for source in range(4):
            for goal in range(4):
                self.assertEqual(carried(cells, source, goal, 0), cells)
        self.assertEqual(carried(cells, 0, 0, 3), cells)
        self.assertEqual(carried([], 0, 0, 0), [])

    def test_every_carrying_in_a_row(self):
        cells = [SIXTY, -1, 7, 0, 7, -SIXTY, 2]
        for count in range(len(cells) + 1):
            for source in range(len(cells) - count + 1):
                for goal in range(len(cells) - count + 1):
                    told = [cells[k - goal + source] if 0 <= k - goal < count else cells[k] for k in range(len(cells))]
                    self.assertEqual(carried(cells, source, goal, count), told)


class Promise2(unittest.TestCase):
    def calls(self, cells):
        return (
            lambda: laid(cells, 0, 2, False), lambda: cut_out(cells, 3, 4, 3), lambda: cut_out(cells, 3, 3, 6),
            lambda: freed(cells, 0), lambda: joined(cells), lambda: carried(cells, 0, 3, 3),
            lambda: carried(cells, 0, 3, 0),
        )

    def test_cells_handed_in_stay_and_what_is_told_is_the_askers_own(self):
        cells = room("l3 f6 f1")
        kept = list(cells)
        for call in self.calls(cells):
            told = call()
            again = list(told)
            self.assertIs(type(told), list)
            self.assertEqual(cells, kept)
            told.append(5)
            told[0] = 99
            self.assertEqual(cells, kept)
            self.assertEqual(call(), again)

    def test_what_changes_nothing_is_the_askers_own_too(self):
        cells = room("f1 l3 f2")
        for told in (joined(cells), carried(cells, 1, 2, 0), carried(cells, 1, 1, 3), laid(cells, 0, 1, False)):
            self.assertEqual(told, cells)
            told[0] = 99
            self.assertEqual(cells, room("f1 l3 f2"))

    def test_a_row_without_cells(self):
        cells = []
        for told in (joined(cells), carried(cells, 0, 0, 0)):
            self.assertEqual(told, [])
            told.append(1)
            self.assertEqual(cells, [])
        self.assertIs(is_joined([]), True)

    def test_what_was_told_stays_when_the_cells_change(self):
        cells = room("l3 f6 f1")
        told = [call() for call in self.calls(cells)]
        kept = [list(row) for row in told]
        cells[0] = 0
        cells.clear()
        self.assertEqual(told, kept)

    def test_what_is_asked_or_refused_changes_nothing(self):
        cells = room("l3 f6 f1")
        kept = list(cells)
        piece_at(cells, 3)
        is_joined(cells)
        for refusal, call in ((NoPiece, lambda: piece_at(cells, 1)), (NoPiece, lambda: cut_out(cells, 0, 0, 3)),
                              (NoRoom, lambda: cut_out(cells, 3, 7, 3)), (NoPiece, lambda: freed(cells, 3))):
            self.assertRaises(refusal, call)
            self.assertEqual(cells, kept)


if __name__ == "__main__":
    unittest.main()
