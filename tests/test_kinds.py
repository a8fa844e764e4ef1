"""Promise [21], and what holds of the keepers of halves, of shelves and of a row alike: [2], [3], [16] to [19]."""

import inspect
import unittest

from rooms import SIXTY, pieces_of, room, walked
from stow.errors import Broken, NoAsk, NoBound, NoCell, NoGive, NoName, NoPiece, NoRoom, NoSize
from stow.halves import Halves
from stow.keepers import Keeper
from stow.kinds import keeper_of
from stow.rows import Row
from stow.shelves import Shelves
from stow.stretches import Best, First, Likes, Next

KINDS = {"first": First, "best": Best, "next": Next, "likes": Likes, "halves": Halves, "shelves": Shelves, "row": Row}
WORDS = ("halves", "shelves", "row")
NAMED = ("cells", "pieces", "lay", "clear", "many", "get", "put", "ask", "give", "grow")
# Such as each of the three makes of 16 cells: holders at 1 and 5, room for a count of 3 and none for 7.
LAID = "l4 l4 f8"
BOUNDS = (2, 3, 4, 8, 400, SIXTY)
BELOW = (0, -1, -2, -SIXTY)


def laid_keeper(word):
    keeper = keeper_of(word, 16)
    keeper.lay(room(LAID))
    return keeper


class Promise21(unittest.TestCase):
    def test_each_word(self):
        for word, kind in KINDS.items():
            for size in (8, 16, 64, 256):
                keeper = keeper_of(word, size)
                self.assertIs(type(keeper), kind)
                self.assertEqual(len(keeper.cells()), size)
                if word != "shelves":
                    self.assertEqual(keeper.pieces(), [(0, size, False)])

    def test_another_text(self):
        for word in KINDS:
            wrong = [word[:k] + word[k + 1:] for k in range(len(word))]
            wrong += [word[:k] + "s" + word[k:] for k in range(len(word) + 1)]
            wrong += [word[:k] + "q" + word[k + 1:] for k in range(len(word))]
            wrong += [word[:k] + word[k].upper() + word[k + 1:] for k in range(len(word))]
            wrong += [word.upper(), word.title(), " " + word, word + " ", word + "\n", word + word, word[::-1], ""]
            for text in wrong + ["half", "shelf", "rows", "keeper", "stretches", "plain", "8", "None"]:
                for size in (8, 1, 0, -1, SIXTY, -SIXTY):
                    with self.subTest(text=text, size=size):
                        self.assertRaises(NoName, keeper_of, text, size)
                        self.assertRaises(NoName, keeper_of, text, size, 0)

    def test_the_shelf_left_out_is_eight(self):
        for size in (8, 24, 400):
            self.assertEqual(keeper_of("shelves", size).pieces(), [(at, 8, False) for at in range(0, size, 8)])
        for size in (1, 7, 9, 20):
            self.assertRaises(NoSize, keeper_of, "shelves", size)

    def test_a_shelf(self):
        for size, shelf in ((12, 4), (9, 3), (5, 5), (6, 1)):
            told = [(at, shelf, False) for at in range(0, size, shelf)]
            self.assertEqual(keeper_of("shelves", size, shelf).pieces(), told)
            self.assertEqual(keeper_of(word="shelves", size=size, shelf=shelf).pieces(), told)
        for size, shelf in ((12, 5), (12, 0), (12, -4), (12, SIXTY), (0, 4), (-4, 4)):
            self.assertRaises(NoSize, keeper_of, "shelves", size, shelf)

    def test_other_words_do_not_look_at_the_shelf(self):
        for word, kind in KINDS.items():
            if word == "shelves":
                continue
            for shelf in (1, 3, 5, 16, 17, 0, -1, -8, SIXTY, -SIXTY):
                keeper = keeper_of(word, 16, shelf)
                self.assertIs(type(keeper), kind)
                self.assertEqual(keeper.cells(), Keeper(16).cells())

    def test_no_size(self):
        for word in KINDS:
            for size in BELOW:
                self.assertRaises(NoSize, keeper_of, word, size)
                self.assertRaises(NoSize, keeper_of, word, size, 1)
        for size in (3, 5, 12, 24, 400):
            self.assertRaises(NoSize, keeper_of, "halves", size)
            self.assertEqual(keeper_of("row", size).pieces(), [(0, size, False)])

    def test_each_made_is_another_one(self):
        for word in KINDS:
            one, other = keeper_of(word, 16), keeper_of(word, 16)
            one.put(one.ask(2), 0, 5)
            self.assertEqual(other.cells(), keeper_of(word, 16).cells())


class Promises18And19(unittest.TestCase):
    def test_no_ask_goes_ahead_of_no_bound_and_of_no_room(self):
        for word in WORDS:
            keeper = laid_keeper(word)
            for wrong in BELOW:
                for other in (1, 3, 7, SIXTY) + BELOW:
                    self.assertRaises(NoAsk, keeper.ask, wrong, other)
                    self.assertRaises(NoAsk, keeper.ask, other, wrong)
                self.assertRaises(NoAsk, keeper.ask, wrong)
            self.assertEqual(keeper.cells(), room(LAID))

    def test_no_bound_goes_ahead_of_no_room(self):
        for word in WORDS:
            keeper = laid_keeper(word)
            for bound in BOUNDS:
                for count in (1, 3, 7, SIXTY):
                    self.assertRaises(NoBound, keeper.ask, count, bound)
                    self.assertRaises(NoBound, keeper.ask, count=count, bound=bound)
            self.assertEqual(keeper.cells(), room(LAID))

    def test_no_room(self):
        for word in WORDS:
            keeper = laid_keeper(word)
            for count in (7, 14, SIXTY):
                self.assertRaises(NoRoom, keeper.ask, count)
                self.assertRaises(NoRoom, keeper.ask, count, 1)
            self.assertEqual(keeper.cells(), room(LAID))
            self.assertEqual(keeper.ask(3, 1), 9)

    def test_no_piece_goes_ahead_of_all_else_in_a_grow(self):
        for word in ("halves", "shelves"):
            keeper = laid_keeper(word)
            for place in (-SIXTY, -1, 0, 2, 3, 4, 6, 8, 9, 10, 15, 16, 17, SIXTY):
                for count in (1, 2, 3, 7, SIXTY) + BELOW:
                    for bound in (1, 2) + BELOW:
                        self.assertRaises(NoPiece, keeper.grow, place, count, bound)
                self.assertRaises(NoPiece, keeper.give, place)
            self.assertEqual(keeper.cells(), room(LAID))

    def test_no_ask_no_bound_and_no_room_in_a_grow(self):
        for word in ("halves", "shelves"):
            keeper = laid_keeper(word)
            for place in (1, 5):
                for wrong in BELOW:
                    for other in (1, 2, 3, 7, SIXTY) + BELOW:
                        self.assertRaises(NoAsk, keeper.grow, place, wrong, other)
                        self.assertRaises(NoAsk, keeper.grow, place, other, wrong)
                # With counts of 1 and 2 it would stay, with 3 it would move, with 7 there is no room.
                for bound in BOUNDS:
                    for count in (1, 2, 3, 7, SIXTY):
                        self.assertRaises(NoBound, keeper.grow, place, count, bound)
                for count in (7, 14, SIXTY):
                    self.assertRaises(NoRoom, keeper.grow, place, count)
                self.assertEqual([keeper.grow(place, 1), keeper.grow(place, 2, 1)], [place, place])
            self.assertEqual(keeper.cells(), room(LAID))
            self.assertEqual(keeper.grow(5, 3, 1), 9)

    def test_no_give_goes_ahead_of_all_else(self):
        keeper = laid_keeper("row")
        for place in (1, 5, 9, 0, -1, SIXTY):
            self.assertRaises(NoGive, keeper.give, place)
            for count in (1, 2, 3, 7, SIXTY) + BELOW:
                for bound in (1, 2) + BELOW:
                    self.assertRaises(NoGive, keeper.grow, place, count, bound)
        self.assertEqual(keeper.cells(), room(LAID))

    def test_no_piece_goes_ahead_of_no_cell(self):
        for word in WORDS:
            keeper = laid_keeper(word)
            for k in (-SIXTY, -1, 2, 3, SIXTY):
                self.assertRaises(NoPiece, keeper.get, 2, k)
                self.assertRaises(NoPiece, keeper.put, 2, k, 1)
                self.assertRaises(NoCell, keeper.get, 1, k)
                self.assertRaises(NoCell, keeper.put, 1, k, 1)
            self.assertEqual(keeper.cells(), room(LAID))


def answer(keeper, deed):
    name, things = deed[0], deed[1:]
    try:
        return getattr(keeper, name)(*things)
    except (NoRoom, NoPiece, NoGive, NoCell, NoBound, NoAsk) as refusal:
        return type(refusal)


DEEDS = (
    ("ask", 1), ("ask", 2), ("ask", 3), ("put", 1, 0, 77), ("ask", 2), ("ask", 6), ("give", 5), ("get", 1, 0),
    ("ask", 1), ("grow", 1, 5), ("ask", 4, 2), ("ask", 3), ("give", 9), ("grow", 17, 6), ("ask", 5), ("many", 1),
    ("ask", 2), ("give", 1), ("put", 25, 0, -8), ("grow", 25, 2), ("ask", 6), ("ask", 1), ("ask", 2), ("ask", 0),
    ("get", 33, 0), ("give", 33), ("ask", 6), ("clear",), ("ask", 6), ("ask", 3), ("ask", 1),
)


class Promise17(unittest.TestCase):
    def test_another_keeper_alike_goes_on_as_the_first_one(self):
        for word in KINDS:
            for told in range(len(DEEDS)):
                one, other = keeper_of(word, 64), keeper_of(word, 64)
                for deed in DEEDS[:told]:
                    answer(one, deed)
                other.ask(1)
                other.lay(one.cells())
                if word == "next":
                    # A lay brings its rover back to 0, in both then.
                    one.lay(one.cells())
                for deed in DEEDS[told:]:
                    self.assertEqual(answer(one, deed), answer(other, deed), (word, told, deed))
                    self.assertEqual(one.cells(), other.cells())

    def test_all_live_pieces_are_live(self):
        for word in WORDS:
            keeper = laid_keeper(word)
            self.assertEqual(keeper.pieces(), pieces_of(LAID))
            self.assertEqual(keeper.cells(), room(LAID))
            for place in (1, 5):
                self.assertEqual([keeper.get(place, k) for k in range(2)], room(LAID)[place:place + 2])

    def test_fewer_and_more_cells(self):
        for word in WORDS:
            keeper = laid_keeper(word)
            for cells in ([], [2], [0] * 15, [0] * 17, room("f8"), room("f8 f8 f8"), room("f32"), room("l15")):
                self.assertRaises(NoSize, keeper.lay, cells)
                self.assertEqual(keeper.cells(), room(LAID))

    def test_cells_that_tell_no_pieces(self):
        for word in WORDS:
            keeper = laid_keeper(word)
            for words, cell, number in (("f16", 0, 0), ("f16", 0, 34), ("f16", 15, 33), ("l8 f8", 7, 16),
                                        ("l8 f8", 8, 5), ("l8 l4 f4", 12, -SIXTY), ("l8 l4 f4", 15, SIXTY)):
                cells = room(words)
                cells[cell] = number
                with self.assertRaises(Broken) as taken:
                    keeper.lay(cells)
                # What was spoilt is in each of them the first that cannot be.
                self.assertEqual(taken.exception.cell, cell)
                self.assertEqual(keeper.cells(), room(LAID))

    def test_the_row_handed_in_is_changed_afterwards(self):
        for word in WORDS:
            cells = room(LAID)
            keeper = keeper_of(word, 16)
            self.assertIsNone(keeper.lay(cells))
            cells[1] = 5
            cells.clear()
            self.assertEqual(keeper.cells(), room(LAID))


class Promise2(unittest.TestCase):
    def test_the_row_handed_in_stays_through_all_deeds(self):
        for word in WORDS:
            cells = room(LAID)
            keeper = keeper_of(word, 16)
            keeper.lay(cells)
            for deed in (("put", 1, 0, 5), ("ask", 3), ("give", 1), ("grow", 5, 1), ("clear",), ("ask", 1)):
                answer(keeper, deed)
            self.assertEqual(cells, room(LAID))

    def test_what_is_told_is_the_askers_own(self):
        for word in WORDS:
            keeper = laid_keeper(word)
            told, pieces = keeper.cells(), keeper.pieces()
            for deed in (("put", 1, 0, 5), ("ask", 3), ("give", 1), ("clear",), ("ask", 1)):
                answer(keeper, deed)
            self.assertEqual((told, pieces), (room(LAID), pieces_of(LAID)))
            kept = keeper.cells()
            told = keeper.cells()
            told[0] = 99
            told.clear()
            keeper.pieces().clear()
            self.assertEqual(keeper.cells(), kept)
            self.assertEqual(keeper.pieces(), walked(kept))


class Promise16(unittest.TestCase):
    def test_clear_makes_the_room_as_at_first(self):
        for word in WORDS:
            keeper = laid_keeper(word)
            self.assertIsNone(keeper.clear())
            self.assertEqual(keeper.cells(), keeper_of(word, 16).cells())
            self.assertRaises(NoPiece, keeper.many, 1)
            self.assertEqual(keeper.ask(6), 1)

    def test_any_number_is_put(self):
        for word in WORDS:
            keeper = laid_keeper(word)
            for number in (0, 1, -1, 8, 9, 16, 17, 32, 33, SIXTY, -SIXTY, 10 ** 999):
                for k in range(2):
                    self.assertIsNone(keeper.put(5, k, number))
                    self.assertEqual(keeper.get(5, k), number)
                    self.assertEqual(keeper.pieces(), pieces_of(LAID))


class Noting:
    """Stands ahead of a keeper's class and notes which of the base's methods are called."""

    def cells(self):
        self.noted.append("cells")
        return Keeper.cells(self)

    def lay(self, cells):
        self.noted.append("lay")
        Keeper.lay(self, cells)


class Interface(unittest.TestCase):
    def test_what_they_stand_under(self):
        for kind in (Halves, Shelves, Row):
            self.assertEqual(kind.__bases__, (Keeper,))

    def test_arguments_and_their_defaults(self):
        for kind in KINDS.values():
            self.assertEqual(str(inspect.signature(kind)), "(size, shelf)" if kind is Shelves else "(size)")
            for name, things in (("ask", "(self, count, bound=1)"), ("grow", "(self, place, count, bound=1)"),
                                 ("give", "(self, place)"), ("clear", "(self)"), ("lay", "(self, cells)")):
                self.assertEqual(str(inspect.signature(getattr(kind, name))), things)
        self.assertEqual(str(inspect.signature(keeper_of)), "(word, size, shelf=8)")

    def test_nothing_is_kept_by_a_name_of_the_base(self):
        plain = vars(Keeper(16))
        for word in WORDS:
            keeper = laid_keeper(word)
            keeper.ask(1)
            for name in vars(keeper):
                self.assertTrue(name in plain or not name.startswith("room_"), name)
            for name in vars(KINDS[word]):
                self.assertFalse(name.startswith("room_"), name)
                self.assertTrue(name.startswith("__") or name in NAMED, name)

    def test_asks_and_gives_go_by_cells_and_lay(self):
        for word in WORDS:
            kind = type("Noted", (Noting, KINDS[word]), {"noted": []})
            keeper = kind(16, 8) if word == "shelves" else kind(16)
            keeper.noted.clear()
            place = keeper.ask(1)
            self.assertEqual((keeper.noted.count("lay"), "cells" in keeper.noted), (1, True))
            if word != "row":
                keeper.noted.clear()
                keeper.give(place)
                self.assertEqual((keeper.noted.count("lay"), "cells" in keeper.noted), (1, True))

    def test_grow_asks_and_gives_by_their_own(self):
        for word in ("halves", "shelves"):
            calls = []

            class Called(KINDS[word]):
                def ask(self, count, bound=1):
                    calls.append(("ask", count, bound, self.pieces()))
                    return KINDS[word].ask(self, count, bound)

                def give(self, place):
                    calls.append(("give", place))
                    KINDS[word].give(self, place)

            keeper = Called(16, 8) if word == "shelves" else Called(16)
            keeper.lay(room("l4 f4 f8"))
            keeper.grow(1, 2)
            self.assertEqual(calls, [])
            self.assertEqual(keeper.grow(1, 5), 9)
            self.assertEqual(calls, [("ask", 5, 1, pieces_of("l4 f4 f8")), ("give", 1)])

    def test_what_is_told_and_laid_calls_no_deed(self):
        def refuse(*things):
            raise AssertionError("called")

        for word in WORDS:
            kind = type("Still", (KINDS[word],), dict.fromkeys(("ask", "give", "grow", "clear"), refuse))
            keeper = kind(16, 8) if word == "shelves" else kind(16)
            keeper.lay(room(LAID))
            keeper.put(5, 0, 7)
            self.assertEqual((keeper.get(5, 0), keeper.many(5), keeper.cells()[5]), (7, 2, 7))
            self.assertEqual(keeper.pieces(), pieces_of(LAID))


if __name__ == "__main__":
    unittest.main()
