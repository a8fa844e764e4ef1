import unittest

from rooms import SIXTY, marked, pieces_of, room
from stow.errors import NoAsk, NoBound, NoCell, NoGive, NoPiece, NoRoom, NoSize
from stow.keepers import Keeper
from stow.rows import Row


def row_with(words):
    cells = room(words)
    keeper = Row(len(cells))
    keeper.lay(cells)
    return keeper


class Made(unittest.TestCase):
    def test_one_free_piece(self):
        for size in (1, 2, 3, 12, 400):
            self.assertEqual(Row(size).cells(), Keeper(size).cells())

    def test_no_size(self):
        for size in (0, -1, -400, -SIXTY):
            self.assertRaises(NoSize, Row, size)


class Ask(unittest.TestCase):
    def test_one_behind_the_other_up_to_the_end(self):
        keeper = Row(17)
        self.assertEqual([keeper.ask(3), keeper.ask(1), keeper.ask(4)], [1, 6, 9])
        self.assertEqual(keeper.pieces(), pieces_of("l5 l3 l6 f3"))
        self.assertEqual([keeper.many(place) for place in (1, 6, 9)], [3, 1, 4])
        self.assertRaises(NoRoom, keeper.ask, 2)
        # This one just fits.
        self.assertEqual(keeper.ask(1), 15)
        self.assertEqual(keeper.pieces(), pieces_of("l5 l3 l6 l3"))
        for count in (1, 2, 15, SIXTY):
            self.assertRaises(NoRoom, keeper.ask, count)
        self.assertEqual(keeper.pieces(), pieces_of("l5 l3 l6 l3"))

    def test_too_few_cells_are_left(self):
        for left in (1, 2):
            keeper = Row(9)
            keeper.ask(7 - left)
            before = keeper.cells()
            self.assertEqual(keeper.pieces(), [(0, 9 - left, True), (9 - left, left, False)])
            for count in (1, 2, left, 10 ** 999):
                self.assertRaises(NoRoom, keeper.ask, count)
            self.assertEqual(keeper.cells(), before)

    def test_the_whole_room_and_more(self):
        for size in (1, 2, 3, 4, 400):
            keeper = Row(size)
            for count in (size - 1, size, size + 1, SIXTY):
                if count > 0:
                    self.assertRaises(NoRoom, keeper.ask, count)
            self.assertEqual(keeper.cells(), Keeper(size).cells())
            if size >= 3:
                self.assertEqual(keeper.ask(size - 2), 1)
                self.assertEqual(keeper.pieces(), [(0, size, True)])
        for size in (1, 2):
            self.assertRaises(NoRoom, Row(size).ask, 1)

    def test_every_count_in_every_short_room(self):
        for ahead in ("", "l3", "l3 l5", "l12"):
            for free in range(0, 12):
                words = f"{ahead} f{free}" if free else ahead
                at = len(room(ahead))
                for count in range(1, 14 if words else 0):
                    keeper = row_with(words)
                    if count + 2 > free:
                        self.assertRaises(NoRoom, keeper.ask, count)
                        self.assertEqual(keeper.cells(), room(words))
                        continue
                    self.assertEqual(keeper.ask(count), at + 1)
                    left = [(at + count + 2, free - count - 2, False)] if free > count + 2 else []
                    self.assertEqual(keeper.cells(), marked(room(words), [(at, count + 2, True)] + left))

    def test_refusals_in_their_order(self):
        for keeper in (Row(9), row_with("l9")):
            before = keeper.cells()
            for count, bound in ((0, 1), (-1, 1), (-SIXTY, 1), (1, 0), (1, -1), (0, 2), (SIXTY, 0), (0, 0)):
                self.assertRaises(NoAsk, keeper.ask, count, bound)
            for count, bound in ((1, 2), (1, SIXTY), (SIXTY, 2), (7, 3)):
                self.assertRaises(NoBound, keeper.ask, count, bound)
            self.assertEqual(keeper.cells(), before)


class NoGiving(unittest.TestCase):
    def test_give_whatever_is_asked(self):
        keeper = row_with("l5 l3 f4")
        before = keeper.cells()
        for place in (1, 6, 9, 0, 2, 5, 12, 13, -1, SIXTY, -SIXTY):
            self.assertRaises(NoGive, keeper.give, place)
        self.assertEqual(keeper.cells(), before)
        for place in (0, 1, 2, SIXTY):
            self.assertRaises(NoGive, Row(1).give, place)

    def test_grow_whatever_is_asked(self):
        for words in ("l5 l3 f4", "l12", "f12"):
            keeper = row_with(words)
            before = keeper.cells()
            for place in (1, 6, 9, 0, 2, 5, 12, 13, -1, SIXTY, -SIXTY):
                self.assertRaises(NoGive, keeper.grow, place, 1)
                for count in (1, 2, 3, 4, 0, -1, 12, SIXTY, -SIXTY):
                    for bound in (1, 2, 0, -1, SIXTY):
                        self.assertRaises(NoGive, keeper.grow, place, count, bound)
            self.assertEqual(keeper.cells(), before)


class Holders(unittest.TestCase):
    def test_put_get_and_many(self):
        keeper = Row(20)
        first, second = keeper.ask(3), keeper.ask(5)
        for place, many in ((first, 3), (second, 5)):
            self.assertEqual(keeper.many(place), many)
            for k in range(many):
                self.assertIsNone(keeper.put(place, k, place * SIXTY + k))
        third = keeper.ask(1)
        keeper.put(third, 0, -1)
        for place, many in ((first, 3), (second, 5)):
            self.assertEqual([keeper.get(place, k) for k in range(many)], [place * SIXTY + k for k in range(many)])
            for k in (-1, many, SIXTY):
                self.assertRaises(NoCell, keeper.get, place, k)
                self.assertRaises(NoCell, keeper.put, place, k, 1)
        self.assertEqual(keeper.pieces(), pieces_of("l5 l7 l3 f5"))
        for place in (0, 2, 5, 15, 16, 17, SIXTY):
            self.assertRaises(NoPiece, keeper.many, place)
            self.assertRaises(NoPiece, keeper.get, place, -1)
            self.assertRaises(NoPiece, keeper.put, place, -1, 1)

    def test_clear(self):
        keeper = Row(9)
        keeper.ask(1)
        keeper.ask(4)
        self.assertIsNone(keeper.clear())
        self.assertEqual(keeper.cells(), Keeper(9).cells())
        self.assertEqual(keeper.ask(7), 1)
        keeper.clear()
        self.assertEqual(keeper.pieces(), pieces_of("f9"))


if __name__ == "__main__":
    unittest.main()
