import inspect
import itertools
import random
import unittest

from rooms import SIXTY, all_pieces, all_rooms, marked, pieces_of, room, walked
from stow.mending import mended, prices_of

# All ways to lay pieces in rows of so many cells.
WAYS = [all_pieces(count) for count in range(10)]
# Among them are marks of free pieces and of live ones, and numbers that are no marks.
NUMBERS = (2, 4, 6, 7, 8, 9, 3, 0, -1)


def price_by_trying(cells):
    """The fewest cells that differ from those of any pieces that fill the row."""
    return min(differing(cells, marked(cells, pieces)) for pieces in WAYS[len(cells)])


def differing(cells, others):
    return sum(one != other for one, other in zip(cells, others, strict=True))


class Promise29(unittest.TestCase):
    def check(self, cells):
        """The mended cells tell pieces, and differ at as many cells as the last price tells; the row stays."""
        before = list(cells)
        prices = prices_of(cells)
        row = mended(cells)
        self.assertEqual(cells, before)
        self.assertEqual(len(prices), len(cells) + 1)
        self.assertEqual(len(row), len(cells))
        walked(row)
        self.assertEqual(differing(cells, row), prices[-1], cells)
        return prices

    def check_prices(self, cells):
        prices = self.check(cells)
        self.assertEqual(prices, [price_by_trying(cells[:end]) for end in range(len(cells) + 1)], cells)

    def test_the_row_without_cells(self):
        self.assertEqual(prices_of([]), [0])
        self.assertEqual(mended([]), [])

    def test_one_cell(self):
        self.assertEqual((prices_of([2]), mended([2])), ([0, 0], [2]))
        # A free piece is the one kind of piece of one cell, and it has both marks there.
        for number in (0, 1, 3, 4, 7, -2, SIXTY, -SIXTY):
            self.assertEqual((prices_of([number]), mended([number])), ([0, 1], [2]))

    def test_two_cells(self):
        for cells, prices in (([2, 2], [0, 0, 0]), ([4, 4], [0, 1, 0]), ([2, 9], [0, 0, 1]), ([9, 2], [0, 1, 1]),
                              ([4, 9], [0, 1, 1]), ([9, 4], [0, 1, 1]), ([9, 9], [0, 1, 2]), ([4, 2], [0, 1, 1])):
            self.assertEqual(prices_of(cells), prices, cells)

    def test_no_live_piece_of_fewer_than_three_cells(self):
        self.assertEqual(prices_of([3]), [0, 1])
        self.assertEqual(prices_of([5, 5]), [0, 1, 2])
        self.assertEqual(prices_of([7, 5, 7]), [0, 1, 2, 0])

    def test_rooms_that_tell_pieces_stay_the_same(self):
        for pieces, cells in all_rooms(9):
            self.assertEqual(self.check(cells)[-1], 0)
            self.assertEqual(mended(cells), cells)
        for words in ("f60", "l60", "f20 l20 f20", " ".join(["l3"] * 20), " ".join(["f1"] * 60), "l30 l3 f1 f1 l25"):
            cells = room(words)
            self.assertEqual(prices_of(cells)[-1], 0)
            self.assertEqual(mended(cells), cells)

    def test_holders_numbers_that_look_like_marks_stay(self):
        cells = [15, 4, 4, 7, 0, 7, 15]
        self.assertEqual(prices_of(cells), [0, 1, 1, 1, 2, 2, 1, 0])
        self.assertEqual(mended(cells), cells)

    def test_each_price_is_one_of_the_cells_ahead_by_themselves(self):
        # The prices of a room at the ends of its pieces are 0.
        cells = room("f2 l4 f1 l3")
        prices = prices_of(cells)
        self.assertEqual([prices[end] for end in (0, 2, 6, 7, 10)], [0, 0, 0, 0, 0])
        for end in range(len(cells) + 1):
            self.assertEqual(prices_of(cells[:end]), prices[:end + 1])

    def test_every_room_with_one_cell_spoilt(self):
        for pieces, cells in all_rooms(7):
            for cell, number in itertools.product(range(len(cells)), (0, 2, 5, 7, -SIXTY, SIXTY)):
                spoilt = list(cells)
                spoilt[cell] = number
                self.assertLessEqual(prices_of(spoilt)[-1], 1)
                self.check_prices(spoilt)

    def test_rooms_with_several_cells_spoilt(self):
        draw = random.Random(31)
        for pieces, cells in all_rooms(8):
            spoilt = list(cells)
            for cell in draw.sample(range(len(cells)), draw.randint(1, len(cells))):
                spoilt[cell] = draw.choice((draw.randint(-3, 20), SIXTY, -SIXTY))
            self.check_prices(spoilt)

    def test_every_short_row(self):
        for count in range(5):
            for cells in itertools.product(NUMBERS, repeat=count):
                self.check_prices(list(cells))

    def test_drawn_rows(self):
        draw = random.Random(32)
        for turn in range(300):
            self.check_prices([draw.randint(-2, 19) for cell in range(draw.randint(5, 9))])

    def test_numbers_that_are_no_marks(self):
        # With no mark to go by one piece is laid over all, and a piece of one cell has one mark.
        for number in (0, -1, -2, -7, 1, 122, 123, SIXTY, -SIXTY, 10 ** 999, -10 ** 999):
            for count in (2, 3, 7, 60):
                cells = [number] * count
                self.assertEqual(self.check(cells), [0, 1] + [2] * (count - 1))

    def test_sixty_cells_spoilt(self):
        cells = room("f5 l20 f1 l14 f20")
        for spoilt, price in (({5: 0}, 1), ({24: SIXTY}, 1), ({25: 1}, 1), ({0: -SIXTY, 59: 3}, 2), ({26: 9, 10: 9}, 1),
                              ({12: 4, 13: 4, 30: -SIXTY}, 0), ({26: 9, 39: 9, 0: 1, 4: 1}, 2)):
            row = list(cells)
            for cell, number in spoilt.items():
                row[cell] = number
            self.assertEqual(self.check(row)[-1], price, spoilt)

    def test_sixty_drawn_cells(self):
        draw = random.Random(33)
        for turn in range(40):
            low, high = draw.choice(((-5, 20), (0, 121), (2, 7), (-SIXTY, SIXTY)))
            cells = [draw.randint(low, high) for cell in range(60)]
            prices = self.check(cells)
            # Up to nine cells there are few enough ways to try them all.
            self.assertEqual(prices[:10], [price_by_trying(cells[:end]) for end in range(10)])
            # No piece more costs more than its marks.
            self.assertLessEqual(max(prices), 2)

    def test_a_change_at_one_end_alone(self):
        # One mark of two stands; the other is written, and nothing else.
        for words in ("l9", "f9", "f3 l6", "l4 f5"):
            cells = room(words)
            last = walked(cells)[-1]
            for cell in (last[0], 8):
                spoilt = list(cells)
                spoilt[cell] = SIXTY
                self.assertEqual(prices_of(spoilt)[-1], 1)
                self.assertEqual(differing(mended(spoilt), spoilt), 1)

    def test_pieces_behind_a_spoilt_one_go_on(self):
        cells = marked([0] * 12, pieces_of("f2 l4 l3 f3"))
        cells[2] = 12
        self.assertEqual(self.check(cells)[-1], 1)

    def test_somewhat_more_than_sixty_cells(self):
        cells = room("f40 l30 f10")
        self.assertEqual(mended(cells), cells)
        cells[40] = 0
        self.assertEqual(self.check(cells)[-1], 1)

    def test_what_is_told_is_the_askers_own(self):
        for cells in ([2, 2], [9, 9], []):
            before = list(cells)
            for told in (prices_of(cells), mended(cells)):
                self.assertIs(type(told), list)
                told.append(5)
                self.assertEqual(cells, before)
            self.assertEqual(len(mended(cells)), len(cells))

    def test_all_told_are_whole_numbers(self):
        for cells in (room("f2 l4 f1"), [SIXTY, 0, -1, 7]):
            self.assertEqual({type(number) for number in prices_of(cells) + mended(cells)}, {int})


class Interface(unittest.TestCase):
    def test_names_and_arguments(self):
        self.assertEqual(str(inspect.signature(prices_of)), "(cells)")
        self.assertEqual(str(inspect.signature(mended)), "(cells)")


if __name__ == "__main__":
    unittest.main()
