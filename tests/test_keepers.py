import unittest

from rooms import SIXTY, marked, pieces_of, room
from stow.errors import Broken, NoAsk, NoBound, NoCell, NoPiece, NoRoom, NoSize
from stow.keepers import Keeper
from stow.pieces import cut_out
from stow.places import spots_for

NAMED = ("cells", "pieces", "lay", "clear", "many", "get", "put", "ask", "give", "grow")


def keeper_with(words, kind=Keeper):
    cells = room(words)
    keeper = kind(len(cells))
    keeper.lay(cells)
    return keeper


class Low(Keeper):
    """A keeper with a rule of its own, as one of a higher stage is made; it notes what is called."""

    def __init__(self, size):
        Keeper.__init__(self, size)
        self.calls = []

    def ask(self, count, bound=1):
        self.calls.append(("ask", count, bound, self.pieces()))
        spots = spots_for(self.cells(), count + 2, bound)
        if not spots:
            raise NoRoom("none")
        self.lay(cut_out(self.cells(), spots[0][0], spots[0][1], count + 2))
        return spots[0][1] + 1

    def give(self, place):
        self.calls.append(("give", place, self.cells()))
        Keeper.give(self, place)


class Promise16(unittest.TestCase):
    def test_at_first_one_free_piece(self):
        for size in (1, 2, 3, 4, 10, 400):
            with self.subTest(size=size):
                keeper = Keeper(size)
                self.assertEqual(keeper.pieces(), [(0, size, False)])
                self.assertEqual(len(keeper.cells()), size)
                self.assertEqual((keeper.cells()[0], keeper.cells()[-1]), (2 * size, 2 * size))

    def test_no_size(self):
        for size in (0, -1, -2, -400, -SIXTY):
            with self.subTest(size=size):
                self.assertRaises(NoSize, Keeper, size)

    def test_many(self):
        keeper = keeper_with("f2 l3 l7 f1 l4")
        self.assertEqual([keeper.many(place) for place in (3, 6, 14)], [1, 5, 2])

    def test_put_and_get_of_every_cell(self):
        keeper = keeper_with("f2 l3 l7 f1 l4")
        before = keeper.cells()
        for place, many in ((3, 1), (6, 5), (14, 2)):
            for k in range(many):
                self.assertEqual(keeper.get(place, k), before[place + k])
                self.assertIsNone(keeper.put(place, k, 100 * place + k))
        for place, many in ((3, 1), (6, 5), (14, 2)):
            for k in range(many):
                self.assertEqual(keeper.get(place, k), 100 * place + k)
                before[place + k] = 100 * place + k
        self.assertEqual(keeper.cells(), before)

    def test_put_of_any_whole_number(self):
        keeper = keeper_with("f2 l5")
        for number in (0, 1, -1, 2, 7, 11, SIXTY, -SIXTY, 10 ** 999, -10 ** 999):
            for k in range(3):
                keeper.put(3, k, number)
                self.assertEqual(keeper.get(3, k), number)
                self.assertEqual(keeper.pieces(), pieces_of("f2 l5"))

    def test_no_holder_begins_beside_a_place(self):
        keeper = keeper_with("f4 l3 l7 f1 l4")
        before = keeper.cells()
        # Among them: free pieces' first cells and the cells behind, live pieces' first and last cells.
        for place in (-SIXTY, -2, -1, 0, 1, 2, 4, 6, 7, 9, 12, 13, 14, 15, 17, 18, 19, 20, 400, SIXTY):
            for call in (lambda: keeper.many(place), lambda: keeper.get(place, 0), lambda: keeper.put(place, 0, 5),
                         lambda: keeper.give(place), lambda: keeper.grow(place, 1)):
                with self.subTest(place=place):
                    self.assertRaises(NoPiece, call)
        self.assertEqual(keeper.cells(), before)

    def test_no_such_cell(self):
        keeper = keeper_with("f4 l3 l7")
        before = keeper.cells()
        for place, many in ((5, 1), (8, 5)):
            keeper.get(place, many - 1)
            for k in (-SIXTY, -2, -1, many, many + 1, many + 2, 400, SIXTY):
                with self.subTest(place=place, k=k):
                    self.assertRaises(NoCell, keeper.get, place, k)
                    self.assertRaises(NoCell, keeper.put, place, k, 5)
        self.assertEqual(keeper.cells(), before)

    def test_no_piece_goes_ahead_of_no_cell(self):
        keeper = keeper_with("f4 l3")
        for place in (-1, 0, 1, 4, 6, 7, SIXTY):
            for k in (-SIXTY, -1, 1, SIXTY):
                self.assertRaises(NoPiece, keeper.get, place, k)
                self.assertRaises(NoPiece, keeper.put, place, k, 5)

    def test_clear(self):
        for words in ("l3", "l5 f2 l3", "f1 f1 f1", "f4"):
            keeper = keeper_with(words)
            size = len(room(words))
            self.assertIsNone(keeper.clear())
            self.assertEqual(keeper.pieces(), [(0, size, False)])
            self.assertEqual(keeper.cells(), Keeper(size).cells())
            self.assertRaises(NoPiece, keeper.many, 1)

    def test_keepers_are_apart(self):
        one, other = keeper_with("l3 f2"), keeper_with("l3 f2")
        one.put(1, 0, 77)
        one.clear()
        self.assertEqual(other.cells(), room("l3 f2"))


class Promise17(unittest.TestCase):
    def test_it_goes_on_with_the_cells(self):
        for words in ("f9", "l9", "f1 f2 f3 f3", "l3 l3 l3", "f2 l4 f3", "f1 l3 f1 f1 l3"):
            with self.subTest(words=words):
                keeper = Keeper(9)
                self.assertIsNone(keeper.lay(room(words)))
                self.assertEqual(keeper.cells(), room(words))
                self.assertEqual(keeper.pieces(), pieces_of(words))
                for at, long, live in pieces_of(words):
                    if live:
                        self.assertEqual(keeper.many(at + 1), long - 2)
                        held = [keeper.get(at + 1, k) for k in range(long - 2)]
                        self.assertEqual(held, room(words)[at + 1:at + long - 1])
                    else:
                        self.assertRaises(NoPiece, keeper.many, at + 1)

    def test_fewer_and_more_cells(self):
        keeper = keeper_with("f2 l4 f3")
        for cells in ([], [2], room("f8"), room("f10"), room("l5 l5"), room("f400")):
            with self.subTest(cells=cells):
                self.assertRaises(NoSize, keeper.lay, cells)
                self.assertEqual(keeper.cells(), room("f2 l4 f3"))

    def test_cells_that_tell_no_pieces(self):
        keeper = keeper_with("f2 l4")
        for cells, bad in (([0] * 6, 0), ([14, 0, 0, 0, 0, 14], 0), ([4, 4, 5, 5, 4, 4], 2), ([12, 0, 0, 0, 0, 13], 5),
                           ([4, 4, 9, 0, 0, 8], 5), ([2, 2, 2, 2, 2, SIXTY], 5), ([-SIXTY, 0, 0, 0, 0, 0], 0)):
            with self.subTest(cells=cells):
                with self.assertRaises(Broken) as taken:
                    keeper.lay(cells)
                self.assertEqual(taken.exception.cell, bad)
                self.assertEqual(keeper.cells(), room("f2 l4"))

    def test_no_size_goes_ahead_of_broken(self):
        keeper = Keeper(3)
        for cells in ([0], [0, 0], [7, 0], [0] * 4, [3] * 5):
            self.assertRaises(NoSize, keeper.lay, cells)
        self.assertEqual(keeper.pieces(), [(0, 3, False)])

    def test_what_was_there_is_gone(self):
        keeper = keeper_with("l3 f3")
        keeper.lay(room("f3 l3"))
        self.assertRaises(NoPiece, keeper.many, 1)
        self.assertEqual(keeper.many(4), 1)


class Promise2(unittest.TestCase):
    def test_what_is_kept_is_a_copy(self):
        cells = room("f2 l4 f3")
        keeper = Keeper(9)
        keeper.lay(cells)
        cells[3] = 5
        cells.clear()
        self.assertEqual(keeper.cells(), room("f2 l4 f3"))

    def test_the_row_handed_in_stays_through_all_deeds(self):
        cells = room("f2 l4 f3")
        keeper = Keeper(9)
        keeper.lay(cells)
        keeper.put(3, 0, 5)
        keeper.give(3)
        keeper.clear()
        self.assertEqual(cells, room("f2 l4 f3"))

    def test_what_is_told_is_the_askers_own(self):
        keeper = keeper_with("f2 l4 f3")
        told, pieces = keeper.cells(), keeper.pieces()
        told[0] = 99
        told.append(1)
        pieces.clear()
        self.assertEqual(keeper.cells(), room("f2 l4 f3"))
        self.assertEqual(keeper.pieces(), pieces_of("f2 l4 f3"))

    def test_what_was_told_stays_through_later_deeds(self):
        keeper = keeper_with("f2 l4 f3")
        told, pieces = keeper.cells(), keeper.pieces()
        keeper.put(3, 0, 5)
        keeper.give(3)
        keeper.lay(room("l9"))
        keeper.clear()
        self.assertEqual(told, room("f2 l4 f3"))
        self.assertEqual(pieces, pieces_of("f2 l4 f3"))


class Promise18(unittest.TestCase):
    def test_a_plain_keeper_finds_no_place_for_anything(self):
        for keeper in (Keeper(400), keeper_with("f9 l3 f9")):
            before = keeper.cells()
            for count in (1, 2, 7, 398, 399, SIXTY):
                self.assertRaises(NoRoom, keeper.ask, count)
                self.assertRaises(NoRoom, keeper.ask, count, 1)
            self.assertEqual(keeper.cells(), before)

    def test_refusals_in_their_order(self):
        keeper = Keeper(20)
        for count, bound in ((0, 1), (-1, 1), (-SIXTY, 1), (1, 0), (1, -1), (1, -SIXTY), (0, 0), (0, 2), (-1, SIXTY),
                             (SIXTY, 0), (SIXTY, -2)):
            with self.subTest(count=count, bound=bound):
                self.assertRaises(NoAsk, keeper.ask, count, bound)
        for count, bound in ((1, 2), (1, 3), (1, SIXTY), (SIXTY, 2), (400, 8)):
            with self.subTest(count=count, bound=bound):
                self.assertRaises(NoBound, keeper.ask, count, bound)
        self.assertEqual(keeper.cells(), Keeper(20).cells())

    def test_the_bound_is_one_by_itself_and_may_be_named(self):
        self.assertRaises(NoRoom, Keeper(5).ask, count=1)
        self.assertRaises(NoBound, Keeper(5).ask, count=1, bound=2)

    def test_give_joins_with_none(self):
        for words, place, new in (("f2 l4 f3", 3, (2, 4, False)), ("l3 l3 l3", 4, (3, 3, False)),
                                  ("l4 f1", 1, (0, 4, False)), ("f1 l5", 2, (1, 5, False)), ("l3", 1, (0, 3, False))):
            with self.subTest(words=words):
                keeper = keeper_with(words)
                self.assertIsNone(keeper.give(place))
                self.assertEqual(keeper.cells(), marked(room(words), [new]))
                self.assertRaises(NoPiece, keeper.give, place)
                self.assertRaises(NoPiece, keeper.get, place, 0)


class Promise19(unittest.TestCase):
    def test_grow_that_stays(self):
        keeper = keeper_with("f2 l6 f9")
        before = keeper.cells()
        for count in (1, 2, 3, 4):
            self.assertEqual(keeper.grow(3, count), 3)
            self.assertEqual(keeper.grow(3, count, 1), 3)
            self.assertEqual(keeper.cells(), before)

    def test_grow_that_finds_no_place(self):
        keeper = keeper_with("f9 l6 f9")
        before = keeper.cells()
        for count in (5, 6, 400, SIXTY):
            self.assertRaises(NoRoom, keeper.grow, 10, count)
            self.assertEqual(keeper.cells(), before)

    def test_refusals_in_their_order(self):
        keeper = keeper_with("f2 l6 f9")
        before = keeper.cells()
        for place in (-1, 0, 1, 2, 4, SIXTY):
            for count, bound in ((1, 1), (0, 1), (9, 2), (1, 0), (SIXTY, 1)):
                self.assertRaises(NoPiece, keeper.grow, place, count, bound)
        for count, bound in ((0, 1), (-1, 1), (-SIXTY, 1), (2, 0), (2, -1), (0, 2), (9, 0), (0, 0)):
            self.assertRaises(NoAsk, keeper.grow, 3, count, bound)
        # A bound other than 1 is refused where the piece would stay, too.
        for count, bound in ((1, 2), (4, 3), (5, 3), (4, SIXTY), (SIXTY, 2)):
            self.assertRaises(NoBound, keeper.grow, 3, count, bound)
        self.assertEqual(keeper.cells(), before)

    def test_grow_asks_and_gives_by_the_class_under_it(self):
        keeper = Low(20)
        first, second = keeper.ask(2), keeper.ask(3)
        for k, number in enumerate((7, SIXTY)):
            keeper.put(first, k, number)
        keeper.put(second, 2, -9)
        standing = keeper.pieces()
        keeper.calls.clear()
        self.assertEqual(keeper.grow(first, 4), 10)
        self.assertEqual([call[0] for call in keeper.calls], ["ask", "give"])
        # The old piece still stands when the new one is asked for; all is carried when the old one is given back.
        self.assertEqual(keeper.calls[0], ("ask", 4, 1, standing))
        self.assertEqual(keeper.calls[1][1], first)
        self.assertEqual(keeper.calls[1][2][10:12], [7, SIXTY])
        self.assertEqual(keeper.pieces(), pieces_of("f4 l5 l6 f5"))
        self.assertEqual([keeper.get(10, 0), keeper.get(10, 1), keeper.get(second, 2)], [7, SIXTY, -9])
        self.assertEqual(keeper.many(10), 4)

    def test_grow_of_the_class_under_it_that_stays_or_is_refused(self):
        keeper = Low(12)
        place = keeper.ask(3)
        before = keeper.cells()
        keeper.calls.clear()
        self.assertEqual([keeper.grow(place, count) for count in (1, 2, 3)], [place] * 3)
        self.assertEqual(keeper.calls, [])
        self.assertRaises(NoRoom, keeper.grow, place, 6)
        self.assertEqual([call[0] for call in keeper.calls], ["ask"])
        self.assertEqual(keeper.cells(), before)
        self.assertEqual(keeper.grow(place, 5), 6)
        self.assertEqual(keeper.pieces(), pieces_of("f5 l7"))


class Interface(unittest.TestCase):
    def test_names_that_begin_with_room(self):
        self.assertTrue(all(name.startswith("room_") for name in vars(Keeper(5))))
        for name in vars(Keeper):
            if not name.startswith("__"):
                self.assertTrue(name in NAMED or name.startswith("room_"), name)

    def test_making_calls_none_of_the_methods(self):
        def refuse(*things):
            raise AssertionError("called")

        every = dict.fromkeys([name for name in vars(Keeper) if not name.startswith("__")], refuse)
        type("Still", (Keeper,), every)(5)

    def test_what_is_told_and_laid_calls_no_deed(self):
        def refuse(*things):
            raise AssertionError("called")

        keeper = type("Still", (Keeper,), dict.fromkeys(("ask", "give", "grow", "clear"), refuse))(9)
        keeper.lay(room("f2 l4 f3"))
        keeper.put(3, 0, 5)
        self.assertEqual(keeper.get(3, 0), 5)
        self.assertEqual(keeper.many(3), 2)
        self.assertEqual(keeper.pieces(), pieces_of("f2 l4 f3"))
        self.assertEqual(keeper.cells()[3], 5)


if __name__ == "__main__":
    unittest.main()
