import itertools
import unittest

from rooms import SIXTY, pieces_of, room, room_of
from stow.errors import NoCell, NoPiece, NoRoom, NoSize
from stow.shelves import Shelves


def shelves_with(shelf, words):
    cells = room(words)
    keeper = Shelves(len(cells), shelf)
    keeper.lay(cells)
    return keeper


# Shelves told apart from the cells: None is a whole shelf, else (size, which of its slots are live).


def all_shelves(shelf):
    """All that a shelf of so many cells can come to."""
    found = [None]
    for size in range(3, shelf + 1):
        found += [(size, slots) for slots in itertools.product((False, True), repeat=shelf // size) if any(slots)]
    return found


def pieces_on(shelves, shelf):
    words = []
    for one in shelves:
        size, slots = (shelf, (False,)) if one is None else one
        words += [f"l{size}" if live else f"f{size}" for live in slots]
        if shelf % size:
            words.append(f"f{shelf % size}")
    return pieces_of(" ".join(words))


def with_slot(shelves, k, size, slots, slot, live):
    """The shelves with one slot of one shelf made live or free; without a live one the shelf is whole."""
    slots = slots[:slot] + (live,) + slots[slot + 1:]
    return shelves[:k] + ((size, slots) if any(slots) else None,) + shelves[k + 1:]


def asked_shelves(shelves, shelf, size):
    """The first cell of the slot that is given out and the shelves then, or None."""
    for k, one in enumerate(shelves):
        if one and one[0] == size and False in one[1]:
            slot = one[1].index(False)
            return k * shelf + slot * size, with_slot(shelves, k, size, one[1], slot, True)
    if size <= shelf and None in shelves:
        k = shelves.index(None)
        return k * shelf, with_slot(shelves, k, size, (False,) * (shelf // size), 0, True)
    return None


class Made(unittest.TestCase):
    def test_all_shelves_are_whole(self):
        for size, shelf in ((1, 1), (2, 1), (2, 2), (4, 2), (3, 3), (8, 8), (24, 8), (40, 4), (400, 400), (400, 1)):
            with self.subTest(size=size, shelf=shelf):
                keeper = Shelves(size, shelf)
                self.assertEqual(keeper.pieces(), [(at, shelf, False) for at in range(0, size, shelf)])
                self.assertEqual(len(keeper.cells()), size)

    def test_no_size(self):
        for size, shelf in ((0, 1), (-1, 1), (-8, 8), (-8, -8), (0, 0), (8, 0), (8, -1), (8, -8), (8, -4), (9, 8),
                            (7, 8), (8, 16), (8, 3), (1, 2), (400, 399), (0, 8), (8, SIXTY), (8, -SIXTY), (-SIXTY, 1),
                            (-SIXTY, -SIXTY), (0, -1), (SIXTY, 10)):
            with self.subTest(size=size, shelf=shelf):
                self.assertRaises(NoSize, Shelves, size, shelf)

    def test_by_names(self):
        self.assertEqual(Shelves(size=16, shelf=4).pieces(), pieces_of("f4 f4 f4 f4"))


class Ask(unittest.TestCase):
    def test_a_whole_shelf_is_cut(self):
        for count, words in ((1, "l3 f3 f3 f1"), (2, "l4 f4 f2"), (3, "l5 f5"), (4, "l6 f4"), (5, "l7 f3"),
                             (6, "l8 f2"), (7, "l9 f1"), (8, "l10")):
            for after in ("", " f10"):
                keeper = shelves_with(10, "f10" + after)
                self.assertEqual(keeper.ask(count), 1)
                self.assertEqual(keeper.pieces(), pieces_of(words + after))
                self.assertEqual(keeper.many(1), count)

    def test_the_lowest_free_slot_of_the_lowest_shelf_cut_for_the_size(self):
        keeper = Shelves(24, 8)
        self.assertEqual([keeper.ask(2) for turn in range(3)], [1, 5, 9])
        self.assertEqual(keeper.pieces(), pieces_of("l4 l4 l4 f4 f8"))
        keeper.give(1)
        # Ahead of the whole shelf and of the free slot above.
        self.assertEqual(keeper.ask(2), 1)
        self.assertEqual(keeper.ask(2), 13)
        self.assertEqual(keeper.ask(2), 17)
        self.assertEqual(keeper.pieces(), pieces_of("l4 l4 l4 l4 l4 f4"))

    def test_a_cut_shelf_above_goes_ahead_of_a_whole_one_below(self):
        keeper = shelves_with(8, "f8 l5 f3 l3 f3 f2")
        self.assertEqual(keeper.ask(1), 20)
        self.assertEqual(keeper.pieces(), pieces_of("f8 l5 f3 l3 l3 f2"))
        # No slot is left, and what is left of a shelf that was cut for five is none.
        self.assertEqual(keeper.ask(1), 1)
        self.assertEqual(keeper.pieces(), pieces_of("l3 f3 f2 l5 f3 l3 l3 f2"))

    def test_the_lowest_whole_shelf_is_cut(self):
        keeper = shelves_with(8, "l5 f3 f8 f8")
        self.assertEqual(keeper.ask(2), 9)
        self.assertEqual(keeper.pieces(), pieces_of("l5 f3 l4 f4 f8"))

    def test_all_shelves_cut_for_other_sizes(self):
        keeper = shelves_with(8, "l5 f3 l4 f4 l3 f3 f2")
        before = keeper.cells()
        for count in (4, 5, 6):
            self.assertRaises(NoRoom, keeper.ask, count)
        self.assertEqual(keeper.cells(), before)
        keeper = shelves_with(8, "l5 f3 l5 f3")
        for count in (1, 2, 3, 6):
            self.assertRaises(NoRoom, keeper.ask, count)

    def test_a_size_beyond_a_shelf(self):
        for size, shelf in ((8, 8), (24, 8), (400, 40), (9, 3), (3, 3)):
            keeper = Shelves(size, shelf)
            before = keeper.cells()
            for count in (shelf - 1, shelf, shelf + 1, size, SIXTY, 10 ** 999):
                self.assertRaises(NoRoom, keeper.ask, count)
            self.assertEqual(keeper.cells(), before)
            self.assertEqual(keeper.ask(shelf - 2), 1)

    def test_shelves_of_one_and_two_cells(self):
        for size, shelf in ((1, 1), (2, 2), (9, 1), (10, 2), (400, 2)):
            keeper = Shelves(size, shelf)
            for count in (1, 2, shelf, size, SIXTY):
                self.assertRaises(NoRoom, keeper.ask, count)
            self.assertEqual(keeper.pieces(), [(at, shelf, False) for at in range(0, size, shelf)])

    def test_slots_that_fill_their_shelf(self):
        keeper = Shelves(9, 3)
        self.assertEqual([keeper.ask(1) for turn in range(3)], [1, 4, 7])
        self.assertEqual(keeper.pieces(), pieces_of("l3 l3 l3"))
        self.assertRaises(NoRoom, keeper.ask, 1)
        keeper.give(4)
        self.assertEqual(keeper.pieces(), pieces_of("l3 f3 l3"))
        self.assertEqual(keeper.ask(1), 4)


class Give(unittest.TestCase):
    def test_live_slots_are_left(self):
        keeper = shelves_with(10, "l3 l3 l3 f1 f10")
        self.assertIsNone(keeper.give(4))
        self.assertEqual(keeper.pieces(), pieces_of("l3 f3 l3 f1 f10"))
        keeper.give(1)
        self.assertEqual(keeper.pieces(), pieces_of("f3 f3 l3 f1 f10"))
        # The shelf is cut for three cells still.
        self.assertEqual(keeper.ask(2), 11)
        self.assertEqual(keeper.ask(1), 1)

    def test_the_shelf_is_whole_again(self):
        keeper = shelves_with(10, "l4 l4 f2 f3 f3 l3 f1 l10")
        keeper.give(17)
        self.assertEqual(keeper.pieces(), pieces_of("l4 l4 f2 f10 l10"))
        keeper.give(21)
        self.assertEqual(keeper.pieces(), pieces_of("l4 l4 f2 f10 f10"))
        keeper.give(5)
        self.assertEqual(keeper.pieces(), pieces_of("l4 f4 f2 f10 f10"))
        keeper.give(1)
        self.assertEqual(keeper.pieces(), pieces_of("f10 f10 f10"))
        # So it may be cut for another size.
        self.assertEqual(keeper.ask(8), 1)

    def test_a_live_slot_of_another_shelf_keeps_none_from_being_whole(self):
        keeper = shelves_with(8, "l4 f4 f4 l4 l4 f4")
        keeper.give(13)
        self.assertEqual(keeper.pieces(), pieces_of("l4 f4 f8 l4 f4"))

    def test_no_piece(self):
        keeper = shelves_with(8, "f4 l4 f8 l5 f3")
        before = keeper.cells()
        for place in (-SIXTY, -1, 0, 1, 2, 4, 6, 7, 8, 9, 15, 16, 18, 21, 22, 24, 25, SIXTY):
            self.assertRaises(NoPiece, keeper.give, place)
        self.assertEqual(keeper.cells(), before)


class Grow(unittest.TestCase):
    def test_it_stays(self):
        keeper = Shelves(16, 8)
        place = keeper.ask(4)
        before = keeper.cells()
        for count in (1, 2, 3, 4):
            self.assertEqual(keeper.grow(place, count), place)
            self.assertEqual(keeper.cells(), before)

    def test_it_moves_with_what_the_holder_had_put(self):
        keeper = Shelves(24, 8)
        first, second = keeper.ask(2), keeper.ask(2)
        for k in range(2):
            keeper.put(first, k, 70 + k)
            keeper.put(second, k, -SIXTY - k)
        self.assertEqual(keeper.grow(first, 3), 9)
        self.assertEqual(keeper.pieces(), pieces_of("f4 l4 l5 f3 f8"))
        self.assertEqual(keeper.grow(second, 6), 17)
        # Its shelf has no live slot by then.
        self.assertEqual(keeper.pieces(), pieces_of("f8 l5 f3 l8"))
        self.assertEqual([keeper.get(9, k) for k in range(2)], [70, 71])
        self.assertEqual([keeper.get(17, k) for k in range(2)], [-SIXTY, -SIXTY - 1])
        self.assertEqual((keeper.many(9), keeper.many(17)), (3, 6))
        self.assertRaises(NoCell, keeper.get, 9, 3)

    def test_into_a_slot_of_a_shelf_that_is_cut(self):
        keeper = shelves_with(8, "l3 f3 f2 l4 f4 f8")
        keeper.put(1, 0, 5)
        self.assertEqual(keeper.grow(1, 2), 13)
        self.assertEqual(keeper.pieces(), pieces_of("f8 l4 l4 f8"))
        self.assertEqual(keeper.get(13, 0), 5)

    def test_the_old_slot_stands_while_the_new_one_is_asked_for(self):
        # With its own shelf whole there would be room.
        keeper = shelves_with(8, "l3 f3 f2 l4 l4")
        before = keeper.cells()
        for count in (2, 3, 6, 7, SIXTY):
            self.assertRaises(NoRoom, keeper.grow, 1, count)
            self.assertEqual(keeper.cells(), before)


class Clear(unittest.TestCase):
    def test_all_shelves_are_whole_again(self):
        for shelf, words in ((8, "l3 l3 f2 l8 f8"), (8, "l5 f3"), (3, "l3 l3"), (12, "l12"), (2, "f2 f2")):
            keeper = shelves_with(shelf, words)
            size = len(room(words))
            self.assertIsNone(keeper.clear())
            self.assertEqual(keeper.cells(), Shelves(size, shelf).cells())
            self.assertEqual(keeper.pieces(), [(at, shelf, False) for at in range(0, size, shelf)])


class AllShortRooms(unittest.TestCase):
    """Every room of these sizes that shelves can come to, each deed against the shelves by themselves."""

    def rooms(self):
        for count, shelf in ((1, 1), (3, 2), (4, 3), (3, 4), (2, 7), (3, 8), (2, 9), (2, 10), (1, 13)):
            for shelves in itertools.product(all_shelves(shelf), repeat=count):
                pieces = pieces_on(shelves, shelf)
                yield shelves, shelf, pieces, room_of(pieces), Shelves(count * shelf, shelf)

    def check(self, keeper, told, pieces, cells):
        self.assertEqual(keeper.pieces(), told)
        for at, long, live in told:
            if live and (at, long, live) in pieces:
                self.assertEqual(keeper.cells()[at:at + long], cells[at:at + long])

    def test_asks(self):
        for shelves, shelf, pieces, cells, keeper in self.rooms():
            for count in range(1, shelf + 1):
                keeper.lay(cells)
                told = asked_shelves(shelves, shelf, count + 2)
                if told is None:
                    self.assertRaises(NoRoom, keeper.ask, count)
                    self.assertEqual(keeper.cells(), cells)
                else:
                    self.assertEqual(keeper.ask(count), told[0] + 1)
                    self.check(keeper, pieces_on(told[1], shelf), pieces, cells)

    def test_gives(self):
        for shelves, shelf, pieces, cells, keeper in self.rooms():
            for k, one in enumerate(shelves):
                for slot, live in enumerate(one[1] if one else ()):
                    if live:
                        keeper.lay(cells)
                        keeper.give(k * shelf + slot * one[0] + 1)
                        told = with_slot(shelves, k, one[0], one[1], slot, False)
                        self.check(keeper, pieces_on(told, shelf), pieces, cells)


if __name__ == "__main__":
    unittest.main()
