import unittest

from rooms import SIXTY, all_rooms, chosen_by_trying, marked, pieces_of, room, run_together
from stow.errors import Broken, NoAsk, NoCell, NoName, NoPiece, NoRoom, NoSize
from stow.keepers import Keeper
from stow.stretches import Best, First, Likes, Next, Stretches, stretches_of

CHOOSERS = (First, Best, Next, Likes)
ALL = (Stretches,) + CHOOSERS
WORDS = ("first", "best", "next", "likes")
NAMED = ("cells", "pieces", "lay", "clear", "many", "get", "put", "ask", "give", "grow", "chosen", "rover")


def keeper_with(kind, words):
    cells = room(words)
    keeper = kind(len(cells))
    keeper.lay(cells)
    return keeper


def moved_next(words, rover_at):
    """A Next over these pieces whose rover was brought to a free one's end by an ask for all of it, given back."""
    keeper = keeper_with(Next, words)
    for at, long, live in pieces_of(words):
        if not live and at + long == rover_at:
            # By this bound no lower place will do.
            keeper.give(keeper.ask(long - 2, at + 1))
    assert keeper.cells() == room(words) and keeper.rover() == rover_at
    return keeper


class Chosen(unittest.TestCase):
    def test_where_they_choose_unlike_one_another(self):
        words = "f9 l3 f12 l3 f5 l3 f4"
        told = [keeper_with(kind, words).chosen(4, 1) for kind in ALL]
        self.assertEqual(told, [None, 0, 35, 0, 27])
        self.assertEqual(moved_next(words, 24).chosen(4, 1), 27)

    def test_alike_pieces(self):
        words = "f8 l3 f5 l3 f5 l3 f6"
        told = [keeper_with(kind, words).chosen(4, 1) for kind in ALL]
        self.assertEqual(told, [None, 0, 11, 0, 11])
        self.assertEqual(keeper_with(Likes, "f6 l3 f5 l3 f4").chosen(3, 1), 0)
        self.assertEqual(keeper_with(Best, "f6 l3 f5 l3 f4").chosen(3, 1), 17)

    def test_the_classes_of_likes(self):
        for words, long, place in (("f8 l3 f7", 3, 11), ("f4 l3 f3", 3, 7), ("f7 l3 f4", 3, 0), ("f16 l3 f15 l3 f8", 3, 19),
                                   ("f7 l3 f8", 8, 10), ("f32 l3 f31 l3 f16", 17, 35)):
            with self.subTest(words=words):
                self.assertEqual(keeper_with(Likes, words).chosen(long, 1), place)

    def test_only_pieces_with_a_first_place_are_chosen_among(self):
        words = "f3 l3 f4 l3 f9"
        for kind in CHOOSERS:
            keeper = keeper_with(kind, words)
            told = [keeper.chosen(long, bound) for long, bound in ((5, 1), (3, 2), (3, 3), (3, 4), (3, 19), (3, 20))]
            self.assertEqual(told, [13, 7, 14, 7, 18, 19])
            self.assertEqual([keeper.chosen(3, 21), keeper.chosen(10, 1)], [None, None])

    def test_bounds(self):
        for kind in CHOOSERS:
            keeper = kind(12)
            told = [keeper.chosen(3, bound) for bound in (1, 2, 3, 5, 10, 11, 12, 400, SIXTY)]
            self.assertEqual(told, [0, 1, 2, 4, 9, None, None, None, None])
            self.assertEqual([keeper.chosen(12, 1), keeper.chosen(13, 1), keeper.chosen(SIXTY, 1)], [0, None, None])

    def test_chosen_changes_nothing(self):
        for kind in ALL:
            keeper = keeper_with(kind, "f9 l3 f5")
            for long, bound in ((3, 1), (3, 2), (9, 1), (10, 1), (3, SIXTY)):
                keeper.chosen(long, bound)
            self.assertEqual(keeper.cells(), room("f9 l3 f5"))

    def test_every_short_joined_room_as_the_words_tell(self):
        for pieces, cells in all_rooms(9):
            if run_together(pieces) != pieces:
                continue
            for word in WORDS:
                keeper = stretches_of(word, len(cells))
                keeper.lay(cells)
                for long in (3, 4):
                    for bound in (1, 2, 3):
                        told = chosen_by_trying(word, 0, pieces, long, bound)
                        self.assertEqual(keeper.chosen(long, bound), told, (word, pieces, long, bound))


class Ask(unittest.TestCase):
    def test_an_ask_cuts_out_where_it_was_chosen(self):
        words = "f9 l3 f12 l3 f5 l3 f4"
        for kind in CHOOSERS:
            for count, bound in ((1, 1), (2, 1), (3, 1), (2, 2), (3, 3), (5, 5), (7, 1), (10, 1)):
                with self.subTest(kind=kind, count=count, bound=bound):
                    keeper = keeper_with(kind, words)
                    at = keeper.chosen(count + 2, bound)
                    free = [piece for piece in keeper.pieces() if piece[0] <= at < piece[0] + piece[1]][0]
                    place = keeper.ask(count, bound)
                    self.assertEqual(place, at + 1)
                    self.assertEqual(place % bound, 0)
                    self.assertEqual(keeper.many(place), count)
                    end = free[0] + free[1]
                    new = [(free[0], at - free[0], False), (at, count + 2, True),
                           (at + count + 2, end - at - count - 2, False)]
                    new = [piece for piece in new if piece[1]]
                    self.assertEqual(keeper.cells(), marked(room(words), new))

    def test_an_ask_goes_by_what_the_class_under_it_chooses(self):
        class Last(Stretches):
            def chosen(self, long, bound):
                fit = [piece for piece in self.pieces() if not piece[2] and piece[1] >= long]
                return fit[-1][0] + fit[-1][1] - long if fit else None

        keeper = Last(10)
        self.assertEqual([keeper.ask(2), keeper.ask(1)], [7, 4])
        self.assertEqual(keeper.pieces(), pieces_of("f3 l3 l4"))
        self.assertEqual(keeper.ask(1), 1)
        self.assertRaises(NoRoom, keeper.ask, 1)

    def test_a_stretches_by_itself_gives_out_nothing(self):
        keeper = Stretches(20)
        self.assertIsNone(keeper.chosen(3, 1))
        self.assertRaises(NoRoom, keeper.ask, 1)
        self.assertRaises(NoRoom, keeper.ask, 1, 2)
        self.assertRaises(NoAsk, keeper.ask, 0)
        self.assertEqual(keeper.cells(), Stretches(20).cells())

    def test_refusals_in_their_order(self):
        for kind in CHOOSERS:
            keeper = keeper_with(kind, "f4 l3 f5")
            for count, bound in ((0, 1), (-1, 1), (-SIXTY, 1), (1, 0), (1, -1), (1, -SIXTY), (0, 0), (0, 9),
                                 (SIXTY, 0), (-1, SIXTY)):
                self.assertRaises(NoAsk, keeper.ask, count, bound)
            for count, bound in ((4, 1), (SIXTY, 1), (1, 21), (3, 10), (1, SIXTY), (SIXTY, SIXTY)):
                self.assertRaises(NoRoom, keeper.ask, count, bound)
            self.assertEqual(keeper.cells(), room("f4 l3 f5"))

    def test_the_whole_room(self):
        for kind in CHOOSERS:
            for size in (3, 4, 400):
                keeper = kind(size)
                self.assertRaises(NoRoom, keeper.ask, size - 1)
                self.assertEqual(keeper.ask(size - 2), 1)
                self.assertEqual(keeper.pieces(), [(0, size, True)])
                self.assertRaises(NoRoom, keeper.ask, 1)
            for size in (1, 2):
                self.assertRaises(NoRoom, kind(size).ask, 1)


class Give(unittest.TestCase):
    def test_give_frees_and_joins(self):
        for kind in ALL:
            for words, place, new in (("f2 l4 f3", 3, (0, 9, False)), ("l3 l3 l3", 4, (3, 3, False)),
                                      ("l4 f1", 1, (0, 5, False)), ("f1 l5", 2, (0, 6, False)), ("l3", 1, (0, 3, False))):
                keeper = keeper_with(kind, words)
                self.assertIsNone(keeper.give(place))
                self.assertEqual(keeper.cells(), marked(room(words), [new]))
                self.assertRaises(NoPiece, keeper.give, place)

    def test_no_piece(self):
        for kind in ALL:
            keeper = keeper_with(kind, "f2 l4 f3")
            for place in (-SIXTY, -1, 0, 1, 2, 4, 5, 6, 7, 9, 10, SIXTY):
                self.assertRaises(NoPiece, keeper.give, place)
                self.assertRaises(NoPiece, keeper.many, place)
                self.assertRaises(NoPiece, keeper.get, place, -1)
            self.assertRaises(NoCell, keeper.get, 3, 2)
            self.assertEqual(keeper.cells(), room("f2 l4 f3"))


class Lay(unittest.TestCase):
    def test_lay_joins_what_it_was_handed(self):
        for kind in ALL:
            for words, new in (("f1 f1 l3 f2 f2 f2", [(0, 2, False), (5, 6, False)]), ("f1 f2 f3", [(0, 6, False)]),
                               ("l3 f1 f1 l4", [(3, 2, False)]), ("l3 f2 l3", [])):
                cells = room(words)
                keeper = kind(len(cells))
                self.assertIsNone(keeper.lay(cells))
                self.assertEqual(cells, room(words))
                self.assertEqual(keeper.cells(), marked(cells, new))
                kept = keeper.cells()
                cells.clear()
                self.assertEqual(keeper.cells(), kept)

    def test_what_is_refused_changes_nothing(self):
        for kind in ALL:
            keeper = keeper_with(kind, "f2 l4 f3")
            for cells in ([0] * 8, [0] * 10, room("f3"), []):
                self.assertRaises(NoSize, keeper.lay, cells)
            with self.assertRaises(Broken) as taken:
                keeper.lay([4, 4, 9, 0, 0, 9, 6, 0, 7])
            self.assertEqual(taken.exception.cell, 8)
            self.assertEqual(keeper.cells(), room("f2 l4 f3"))

    def test_clear(self):
        for kind in ALL:
            keeper = keeper_with(kind, "f2 l4 f3")
            self.assertIsNone(keeper.clear())
            self.assertEqual(keeper.cells(), kind(9).cells())
            self.assertEqual(keeper.pieces(), [(0, 9, False)])


class Rover(unittest.TestCase):
    def test_at_first_and_behind_asks(self):
        keeper = Next(20)
        self.assertEqual(keeper.rover(), 0)
        self.assertEqual((keeper.ask(2), keeper.rover()), (1, 4))
        self.assertEqual((keeper.ask(3), keeper.rover()), (5, 9))
        self.assertEqual((keeper.ask(1, 4), keeper.rover()), (12, 14))
        self.assertEqual((keeper.ask(4), keeper.rover()), (15, 20))
        # None is left at the rover or above, so it goes on from below, and the rover with it.
        keeper.give(1)
        self.assertEqual((keeper.ask(1), keeper.rover()), (1, 3))

    def test_it_takes_the_first_one_at_the_rover_or_above(self):
        words = "f5 l3 f5 l3 f5 l3 f4"
        for rover, place in ((0, 0), (5, 8), (13, 16), (21, 24), (28, 0)):
            self.assertEqual(moved_next(words, rover).chosen(4, 1), place)
        # A free piece whose first cell is below the rover is not above it, though its end is.
        keeper = Next(20)
        keeper.give(keeper.ask(5))
        self.assertEqual((keeper.rover(), keeper.pieces()), (7, [(0, 20, False)]))
        self.assertEqual(keeper.chosen(3, 1), 0)

    def test_above_the_rover_ahead_of_a_lower_one(self):
        keeper = Next(20)
        first, second = keeper.ask(3), keeper.ask(3)
        keeper.give(first)
        self.assertEqual(keeper.ask(1), 11)
        self.assertEqual(second, 6)
        # The one at the rover has too few cells for this, so the lowest is taken.
        self.assertEqual(keeper.pieces(), pieces_of("f5 l5 l3 f7"))
        self.assertEqual(keeper.ask(5), 14)
        self.assertEqual(keeper.ask(2), 1)

    def test_a_grow_that_stays_and_one_that_moves(self):
        keeper = Next(30)
        first, second = keeper.ask(3), keeper.ask(3)
        self.assertEqual(keeper.rover(), 10)
        self.assertEqual((keeper.grow(second, 6), keeper.rover()), (second, 10))
        self.assertEqual((keeper.grow(second, 2), keeper.rover()), (second, 10))
        # The free piece begins at 9, right behind the second one, so none begins at the rover or above.
        self.assertEqual((keeper.grow(first, 4), keeper.rover()), (10, 15))
        # Fewer cells, but by another bound: it moves, too.
        self.assertEqual((keeper.grow(10, 1, 9), keeper.rover()), (18, 20))

    def test_behind_give_put_get_many_and_what_is_told(self):
        keeper = Next(20)
        first, second = keeper.ask(3), keeper.ask(4)
        keeper.put(first, 0, 5)
        keeper.get(first, 0)
        keeper.many(second)
        keeper.cells()
        keeper.pieces()
        keeper.chosen(3, 1)
        keeper.give(second)
        keeper.give(first)
        self.assertEqual(keeper.rover(), 11)

    def test_behind_what_is_refused(self):
        keeper = Next(12)
        place = keeper.ask(4)
        for refusal, call in (
            (NoRoom, lambda: keeper.ask(5)), (NoRoom, lambda: keeper.ask(1, 20)), (NoAsk, lambda: keeper.ask(0)),
            (NoAsk, lambda: keeper.ask(1, 0)), (NoPiece, lambda: keeper.give(2)), (NoPiece, lambda: keeper.grow(2, 1)),
            (NoAsk, lambda: keeper.grow(place, 0)), (NoRoom, lambda: keeper.grow(place, 11)),
            (NoSize, lambda: keeper.lay(room("f11"))), (Broken, lambda: keeper.lay([0] * 12)),
            (NoCell, lambda: keeper.put(place, 4, 1)), (NoPiece, lambda: keeper.get(0, 0)),
        ):
            self.assertRaises(refusal, call)
            self.assertEqual(keeper.rover(), 6)
            self.assertEqual(keeper.pieces(), pieces_of("l6 f6"))

    def test_behind_clear_and_lay(self):
        keeper = Next(12)
        keeper.ask(4)
        keeper.clear()
        self.assertEqual(keeper.rover(), 0)
        keeper.ask(4)
        keeper.lay(keeper.cells())
        self.assertEqual(keeper.rover(), 0)
        self.assertEqual(keeper.pieces(), pieces_of("l6 f6"))


class Grow(unittest.TestCase):
    def test_at_its_place(self):
        for kind in ALL:
            for words, place, count, new in (
                ("f2 l5 f4 l3", 3, 4, [(2, 6, True), (8, 3, False)]), ("f2 l5 f4 l3", 3, 6, [(2, 8, True), (10, 1, False)]),
                ("f2 l5 f4 l3", 3, 7, [(2, 9, True)]), ("f2 l5 f4 l3", 3, 3, []),
                ("f2 l5 f4 l3", 3, 2, [(2, 4, True), (6, 5, False)]), ("f2 l5 f4 l3", 3, 1, [(2, 3, True), (5, 6, False)]),
                ("f2 l5 l3", 3, 2, [(2, 4, True), (6, 1, False)]), ("f2 l5", 3, 1, [(2, 3, True), (5, 2, False)]),
                ("f2 l5", 3, 3, []), ("l4 f1", 1, 3, [(0, 5, True)]), ("f2 l5 f1", 3, 4, [(2, 6, True)]),
            ):
                with self.subTest(kind=kind, words=words, count=count):
                    keeper = keeper_with(kind, words)
                    self.assertEqual(keeper.grow(place, count), place)
                    self.assertEqual(keeper.cells(), marked(room(words), new))
                    self.assertEqual(keeper.many(place), count)

    def test_at_its_place_by_a_bound(self):
        for kind in CHOOSERS:
            keeper = keeper_with(kind, "f5 l5 f9")
            for count, bound in ((5, 2), (6, 3), (2, 6), (12, 6), (1, 1)):
                self.assertEqual(keeper.grow(6, count, bound), 6)
                self.assertEqual(keeper.many(6), count)
            self.assertEqual(keeper.pieces(), pieces_of("f5 l3 f11"))

    def test_to_another_place_with_what_the_holder_had_put(self):
        for kind in CHOOSERS:
            keeper = keeper_with(kind, "l5 l3 f9")
            for k in range(3):
                keeper.put(1, k, 70 + k)
            keeper.put(6, 0, -8)
            self.assertEqual(keeper.grow(1, 5), 9)
            self.assertEqual(keeper.pieces(), pieces_of("f5 l3 l7 f2"))
            self.assertEqual([keeper.get(9, k) for k in range(3)], [70, 71, 72])
            self.assertEqual(keeper.get(6, 0), -8)
            self.assertRaises(NoPiece, keeper.many, 1)

    def test_to_another_place_with_fewer_cells_by_a_bound(self):
        for kind in CHOOSERS:
            keeper = keeper_with(kind, "l6 f12")
            for k in range(4):
                keeper.put(1, k, 70 + k)
            self.assertEqual(keeper.grow(1, 2, 5), 10)
            self.assertEqual(keeper.pieces(), pieces_of("f9 l4 f5"))
            self.assertEqual([keeper.get(10, 0), keeper.get(10, 1)], [70, 71])
            # The cell right behind the holder's two bears its mark, not what it had put third.
            self.assertEqual(keeper.cells()[12], 9)

    def test_the_old_piece_stands_while_the_new_one_is_asked_for(self):
        for kind in CHOOSERS:
            keeper = keeper_with(kind, "f4 l5 l3 f4")
            before = keeper.cells()
            # With its own cells there would be room: 4 + 5.
            self.assertRaises(NoRoom, keeper.grow, 5, 7)
            self.assertRaises(NoRoom, keeper.grow, 5, 4)
            self.assertEqual(keeper.cells(), before)
            self.assertRaises(NoRoom, keeper.grow, 5, 2, 2)
            self.assertEqual(keeper.cells(), before)
            self.assertEqual(keeper.grow(5, 1, 2), 2)
            self.assertEqual(keeper.pieces(), pieces_of("f1 l3 f5 l3 f4"))

    def test_refusals_in_their_order(self):
        for kind in CHOOSERS:
            keeper = keeper_with(kind, "f2 l5 f4")
            before = keeper.cells()
            for place in (-SIXTY, -1, 0, 1, 2, 4, 8, 11, SIXTY):
                for count, bound in ((1, 1), (0, 1), (1, 0), (SIXTY, 1)):
                    self.assertRaises(NoPiece, keeper.grow, place, count, bound)
            for count, bound in ((0, 1), (-1, 1), (-SIXTY, 1), (1, 0), (1, -1), (1, -SIXTY), (0, 0), (SIXTY, 0), (0, SIXTY)):
                self.assertRaises(NoAsk, keeper.grow, 3, count, bound)
            for count, bound in ((8, 1), (SIXTY, 1), (1, SIXTY), (1, 11), (3, 10), (SIXTY, 3)):
                self.assertRaises(NoRoom, keeper.grow, 3, count, bound)
            self.assertEqual(keeper.cells(), before)

    def test_a_stretches_by_itself_grows_at_its_place_alone(self):
        keeper = keeper_with(Stretches, "l5 f2 l3 f9")
        self.assertEqual(keeper.grow(1, 5), 1)
        self.assertRaises(NoRoom, keeper.grow, 1, 6)
        self.assertRaises(NoRoom, keeper.grow, 1, 1, 2)
        self.assertEqual(keeper.pieces(), pieces_of("l7 l3 f9"))

    def test_a_grow_asks_and_gives_by_the_class_under_it(self):
        calls = []

        class Noting(First):
            def ask(self, count, bound=1):
                calls.append(("ask", count, bound))
                return First.ask(self, count, bound)

            def give(self, place):
                calls.append(("give", place))
                First.give(self, place)

        keeper = keeper_with(Noting, "l5 f2 l3 f9")
        keeper.grow(1, 5)
        self.assertEqual(calls, [])
        keeper.grow(1, 6, 1)
        self.assertEqual(calls, [("ask", 6, 1), ("give", 1)])


class Made(unittest.TestCase):
    def test_each_word(self):
        for word, kind in zip(WORDS, CHOOSERS):
            for size in (1, 2, 9, 400):
                keeper = stretches_of(word, size)
                self.assertIs(type(keeper), kind)
                self.assertEqual(keeper.pieces(), [(0, size, False)])

    def test_another_text(self):
        for word in ("", "First", "FIRST", " first", "first ", "halves", "shelves", "row", "stretches", "keeper", "firs"):
            for size in (5, 1, 0, -1, -SIXTY):
                with self.subTest(word=word, size=size):
                    self.assertRaises(NoName, stretches_of, word, size)

    def test_no_size(self):
        for size in (0, -1, -400, -SIXTY):
            for word in WORDS:
                self.assertRaises(NoSize, stretches_of, word, size)
            for kind in ALL:
                self.assertRaises(NoSize, kind, size)

    def test_one_free_piece_at_first(self):
        for kind in ALL:
            for size in (1, 2, 3, 400):
                self.assertEqual(kind(size).cells(), Keeper(size).cells())

    def test_what_they_stand_under(self):
        self.assertEqual(Stretches.__bases__, (Keeper,))
        for kind in CHOOSERS:
            self.assertEqual(kind.__bases__, (Stretches,))

    def test_names_that_begin_with_room(self):
        for kind in ALL:
            self.assertTrue(all(name.startswith("room_") for name in vars(kind(5))))
            for name in vars(kind):
                if not name.startswith("__"):
                    self.assertTrue(name in NAMED or name.startswith("room_"), name)

    def test_making_calls_none_of_the_methods(self):
        def refuse(*things):
            raise AssertionError("called")

        for kind in ALL:
            every = [name for name in dir(kind) if not name.startswith("__")]
            type("Still", (kind,), dict.fromkeys(every, refuse))(5)

    def test_what_is_told_and_laid_calls_no_deed(self):
        def refuse(*things):
            raise AssertionError("called")

        for kind in ALL:
            keeper = type("Still", (kind,), dict.fromkeys(("ask", "give", "grow", "clear"), refuse))(9)
            keeper.lay(room("f2 l4 f3"))
            keeper.put(3, 0, 5)
            self.assertEqual((keeper.get(3, 0), keeper.many(3), keeper.cells()[3]), (5, 2, 5))
            self.assertEqual(keeper.pieces(), pieces_of("f2 l4 f3"))


class Promise2(unittest.TestCase):
    def test_what_is_told_is_the_askers_own(self):
        for kind in CHOOSERS:
            keeper = kind(12)
            place = keeper.ask(2)
            keeper.put(place, 0, 5)
            told, pieces = keeper.cells(), keeper.pieces()
            kept = list(told), list(pieces)
            keeper.put(place, 0, 6)
            keeper.grow(place, 4)
            keeper.give(place)
            self.assertEqual((told, pieces), kept)
            told.clear()
            pieces.clear()
            self.assertEqual(keeper.pieces(), [(0, 12, False)])


if __name__ == "__main__":
    unittest.main()
