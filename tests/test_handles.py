import inspect
import unittest

from rooms import SIXTY, pieces_of, walked
from stow.errors import NoAsk, NoCell, NoHandle, NoName, NoRoom, NoSize
from stow.handles import Handles
from stow.stretches import stretches_of

WORDS = ("first", "best", "next", "likes")


def state(room):
    """All that is told of a room by handles."""
    handles = room.handles()
    held = [[room.get(handle, k) for k in range(room.many(handle))] for handle in handles]
    return room.cells(), room.pieces(), handles, [room.place(handle) for handle in handles], held


def fill(room, handle):
    """Puts numbers that look like marks, other ones by each handle, and tells them."""
    numbers = [2 * handle + 7 + k for k in range(room.many(handle))]
    for k, number in enumerate(numbers):
        room.put(handle, k, number)
    return numbers


def holds(room, handle):
    return [room.get(handle, k) for k in range(room.many(handle))]


def with_gaps(word="first"):
    """Three live pieces of three holder's cells, by the handles 0, 2 and 4, with free cells between and behind."""
    room = Handles(27, word)
    for turn in range(5):
        room.ask(3)
    for handle in (0, 2, 4):
        fill(room, handle)
    room.give(1)
    room.give(3)
    return room


class Made(unittest.TestCase):
    def test_one_free_piece_and_no_handles(self):
        for word in WORDS:
            for size in (1, 2, 3, 400):
                room = Handles(size, word)
                self.assertEqual(room.cells(), stretches_of(word, size).cells())
                self.assertEqual(room.pieces(), [(0, size, False)])
                self.assertEqual(room.handles(), [])

    def test_another_word(self):
        for word in ("", "halves", "shelves", "row", "First", "first ", "stretches", "nexts", "plain"):
            for size in (1, 40, 0, -1, -SIXTY):
                self.assertRaises(NoName, Handles, size, word)

    def test_no_size(self):
        for word in WORDS:
            for size in (0, -1, -400, -SIXTY):
                self.assertRaises(NoSize, Handles, size, word)

    def test_each_word_chooses_in_its_own_way(self):
        for word, place in (("first", 1), ("best", 23), ("next", 31), ("likes", 13)):
            room = Handles(40, word)
            for count in (7, 1, 5, 1, 3, 1):
                room.ask(count)
            for handle in (0, 2, 4):
                room.give(handle)
            # The rover stands behind the last live piece.
            self.assertEqual(room.pieces(), pieces_of("f9 l3 f7 l3 f5 l3 f10"))
            self.assertEqual(room.place(room.ask(2)), place)

    def test_two_rooms_share_nothing(self):
        one, other = Handles(20, "first"), Handles(20, "first")
        one.ask(3)
        self.assertEqual((other.handles(), other.pieces()), ([], [(0, 20, False)]))
        self.assertEqual((one.ask(3), other.ask(1)), (1, 0))


class Numbers(unittest.TestCase):
    def test_handles_from_0_on(self):
        for word in WORDS:
            room = Handles(40, word)
            self.assertEqual([room.ask(count) for count in (3, 1, 4)], [0, 1, 2])
            self.assertEqual(room.handles(), [0, 1, 2])
            self.assertEqual([room.many(handle) for handle in (0, 1, 2)], [3, 1, 4])
            self.assertEqual([room.place(handle) for handle in (0, 1, 2)], [1, 6, 9])

    def test_never_one_again(self):
        for word in WORDS:
            room = Handles(12, word)
            told = []
            for turn in range(20):
                told.append(room.ask(3))
                room.give(told[-1])
            self.assertEqual(told, list(range(20)))
            self.assertEqual(room.handles(), [])

    def test_refused_asks_take_no_number(self):
        room = Handles(12, "best")
        self.assertEqual(room.ask(3), 0)
        for count, refusal in ((6, NoRoom), (0, NoAsk), (-1, NoAsk), (SIXTY, NoRoom)):
            self.assertRaises(refusal, room.ask, count)
        self.assertEqual(room.ask(3), 1)
        room.give(0)
        self.assertRaises(NoRoom, room.ask, 40)
        self.assertEqual(room.ask(1), 2)
        self.assertEqual(room.handles(), [1, 2])

    def test_handles_rise_wherever_their_pieces_lie(self):
        room = Handles(24, "first")
        for count in (3, 3, 3):
            room.ask(count)
        room.give(0)
        # The newest handle's piece lies lowest now.
        self.assertEqual((room.ask(2), room.place(3)), (3, 1))
        self.assertEqual(room.handles(), [1, 2, 3])
        room.gather(room.pieces()[-1][1] + 1)
        self.assertEqual(room.handles(), [1, 2, 3])
        self.assertEqual([room.place(handle) for handle in (1, 2, 3)], [5, 10, 1])

    def test_what_is_told_is_the_askers_own(self):
        room = with_gaps()
        before = state(room)
        for told in (room.handles(), room.cells(), room.pieces()):
            self.assertIs(type(told), list)
            told.clear()
        self.assertEqual(state(room), before)
        handles, cells, pieces = room.handles(), room.cells(), room.pieces()
        room.gather(12)
        room.give(0)
        self.assertEqual((handles, cells, pieces), (before[2], before[0], before[1]))


class Wrong(unittest.TestCase):
    def check_no_handle(self, room, handle):
        before = state(room)
        for call in (
            lambda: room.place(handle), lambda: room.many(handle), lambda: room.give(handle),
            lambda: room.get(handle, 0), lambda: room.get(handle, -1), lambda: room.get(handle, SIXTY),
            lambda: room.put(handle, 0, 5), lambda: room.put(handle, -1, 5), lambda: room.put(handle, SIXTY, 5),
            lambda: room.grow(handle, 1), lambda: room.grow(handle, 0), lambda: room.grow(handle, -SIXTY),
            lambda: room.grow(handle, SIXTY),
        ):
            self.assertRaises(NoHandle, call)
        self.assertEqual(state(room), before)

    def test_never_told(self):
        for word in WORDS:
            room = with_gaps(word)
            for handle in (5, 6, 26, 27, SIXTY, -1, -2, -SIXTY):
                self.check_no_handle(room, handle)
            self.check_no_handle(Handles(9, word), 0)

    def test_given_back(self):
        for word in WORDS:
            room = with_gaps(word)
            for handle in (1, 3):
                self.check_no_handle(room, handle)
            room.gather(12)
            for handle in (1, 3):
                self.check_no_handle(room, handle)
            room.give(0)
            self.check_no_handle(room, 0)

    def test_a_place_is_no_handle(self):
        room = Handles(40, "first")
        room.ask(3)
        room.ask(3)
        self.assertEqual(room.place(1), 6)
        self.check_no_handle(room, 6)

    def test_no_cell(self):
        room = with_gaps()
        before = state(room)
        for handle in (0, 2, 4):
            for k in (-1, 3, 4, -SIXTY, SIXTY):
                self.assertRaises(NoCell, room.get, handle, k)
                self.assertRaises(NoCell, room.put, handle, k, 5)
        self.assertEqual(state(room), before)

    def test_no_ask(self):
        for word in WORDS:
            for room in (with_gaps(word), Handles(3, word)):
                if not room.handles():
                    room.ask(1)
                before = state(room)
                for count in (0, -1, -SIXTY):
                    self.assertRaises(NoAsk, room.ask, count)
                    self.assertRaises(NoAsk, room.grow, room.handles()[0], count)
                    self.assertRaises(NoAsk, room.gather, count)
                self.assertEqual(state(room), before)


class Ask(unittest.TestCase):
    def test_as_the_keeper_asks(self):
        for word in WORDS:
            room, keeper = Handles(60, word), stretches_of(word, 60)
            for count in (3, 1, 5, 2, 8):
                self.assertEqual(room.place(room.ask(count)), keeper.ask(count))
            room.give(1)
            room.give(3)
            keeper.give(6)
            keeper.give(16)
            for count in (1, 2, 5):
                self.assertEqual(room.place(room.ask(count)), keeper.ask(count))
            self.assertEqual(room.pieces(), keeper.pieces())

    def test_granted_only_by_moving(self):
        for word in WORDS:
            room = with_gaps(word)
            self.assertEqual(room.pieces(), pieces_of("l5 f5 l5 f5 l5 f2"))
            numbers = {handle: holds(room, handle) for handle in room.handles()}
            handle = room.ask(7)
            self.assertEqual(handle, 5)
            # Of the two ways that move five cells alike the one with the lower start is taken: ten free cells.
            self.assertEqual(room.pieces(), pieces_of("l5 l5 l9 f1 l5 f2"))
            self.assertEqual([room.place(handle) for handle in (0, 2, 4, 5)], [1, 6, 21, 11])
            self.assertEqual({handle: holds(room, handle) for handle in (0, 2, 4)}, numbers)
            self.assertEqual((room.many(5), room.handles()), (7, [0, 2, 4, 5]))

    def test_all_free_cells_at_once_and_one_more(self):
        for word in WORDS:
            room = with_gaps(word)
            before = state(room)
            for count in (11, 12, 27, SIXTY, 10 ** 999):
                self.assertRaises(NoRoom, room.ask, count)
                self.assertEqual(state(room), before)
            # Twelve free cells in all.
            numbers = {handle: holds(room, handle) for handle in room.handles()}
            self.assertEqual(room.ask(10), 5)
            self.assertEqual(room.pieces(), pieces_of("l5 l5 l5 l12"))
            self.assertEqual({handle: holds(room, handle) for handle in (0, 2, 4)}, numbers)
            self.assertRaises(NoRoom, room.ask, 1)

    def test_a_refused_ask_leaves_the_rover(self):
        room = with_gaps("next")
        room.ask(1)
        # The rover stands at cell 8 now, so the upper gap goes first.
        self.assertEqual(room.place(5), 6)
        self.assertRaises(NoRoom, room.ask, 10)
        self.assertRaises(NoAsk, room.ask, 0)
        room.give(0)
        self.assertEqual(room.place(room.ask(1)), 16)

    def test_small_rooms(self):
        for word in WORDS:
            for size in (1, 2):
                self.assertRaises(NoRoom, Handles(size, word).ask, 1)
            room = Handles(3, word)
            self.assertRaises(NoRoom, room.ask, 2)
            self.assertEqual((room.ask(1), room.place(0), room.many(0)), (0, 1, 1))
            self.assertRaises(NoRoom, room.ask, 1)

    def test_400_cells_granted_by_moving_all(self):
        for word in WORDS:
            room = Handles(400, word)
            for turn in range(100):
                room.ask(2)
                room.put(turn, 0, turn)
                room.put(turn, 1, -turn)
            for handle in range(0, 100, 2):
                room.give(handle)
            handle = room.ask(198)
            self.assertEqual(handle, 100)
            for handle in range(1, 100, 2):
                self.assertEqual(holds(room, handle), [handle, -handle])
            self.assertEqual(sum(long for at, long, live in room.pieces() if not live), 0)
            self.assertRaises(NoRoom, room.ask, 1)


class Grow(unittest.TestCase):
    def test_a_grow_that_stays(self):
        for word in WORDS:
            room = with_gaps(word)
            self.assertEqual(room.grow(0, 5), 1)
            self.assertEqual(room.pieces(), pieces_of("l7 f3 l5 f5 l5 f2"))
            self.assertEqual((room.place(0), room.many(0), holds(room, 0)[:3]), (1, 5, [7, 8, 9]))
            self.assertEqual(room.grow(0, 8), 1)
            self.assertEqual(room.pieces(), pieces_of("l10 l5 f5 l5 f2"))
            self.assertEqual(room.grow(0, 1), 1)
            self.assertEqual(room.pieces(), pieces_of("l3 f7 l5 f5 l5 f2"))
            self.assertEqual(holds(room, 0), [7])
            self.assertEqual(room.handles(), [0, 2, 4])

    def test_a_grow_that_goes_elsewhere(self):
        for word in WORDS:
            room = Handles(30, word)
            room.ask(3)
            room.ask(3)
            numbers = fill(room, 0)
            other = fill(room, 1)
            self.assertEqual(room.grow(0, 6), 11)
            self.assertEqual((room.place(0), room.place(1)), (11, 6))
            self.assertEqual((holds(room, 0)[:3], holds(room, 1)), (numbers, other))
            self.assertEqual(room.pieces(), pieces_of("f5 l5 l8 f12"))
            self.assertEqual(room.handles(), [0, 1])

    def test_granted_only_by_moving(self):
        for word in WORDS:
            room = with_gaps(word)
            numbers = {handle: holds(room, handle) for handle in room.handles()}
            # Eleven cells: neither a gap nor its own cells and those behind suffice, all free cells do.
            place = room.grow(2, 9)
            self.assertEqual((room.place(2), room.many(2)), (place, 9))
            self.assertEqual(holds(room, 2)[:3], numbers[2])
            self.assertEqual((holds(room, 0), holds(room, 4)), (numbers[0], numbers[4]))
            # Moved for the need are its own piece and the one behind; the grow goes to the free piece then.
            self.assertEqual(room.pieces(), pieces_of("l5 f5 l5 l11 f1"))
            self.assertEqual([room.place(handle) for handle in (0, 2, 4)], [1, 16, 11])

    def test_it_stays_where_the_moving_brought_it(self):
        for word in WORDS:
            room = with_gaps(word)
            numbers = holds(room, 4)
            # The last piece itself moves down for this, and the free piece is right behind it then.
            self.assertEqual(room.grow(4, 10), 11)
            self.assertEqual(room.pieces(), pieces_of("l5 l5 l12 f5"))
            self.assertEqual(holds(room, 4)[:3], numbers)

    def test_its_own_cells_are_not_counted(self):
        for word in WORDS:
            room = with_gaps(word)
            before = state(room)
            # All free cells and its own would suffice.
            for handle in (0, 2, 4):
                for count in (11, 14, 15, SIXTY):
                    self.assertRaises(NoRoom, room.grow, handle, count)
                    self.assertEqual(state(room), before)

    def test_just_as_many_as_all_free_cells(self):
        for word in WORDS:
            for handle in (0, 2, 4):
                room = with_gaps(word)
                numbers = {handle: holds(room, handle) for handle in room.handles()}
                room.grow(handle, 10)
                self.assertEqual(room.many(handle), 10)
                for other in (0, 2, 4):
                    self.assertEqual(holds(room, other)[:3], numbers[other])

    def test_a_refused_grow_leaves_the_rover(self):
        room = with_gaps("next")
        room.ask(1)
        self.assertRaises(NoRoom, room.grow, 0, 11)
        self.assertRaises(NoAsk, room.grow, 0, 0)
        room.give(0)
        self.assertEqual(room.place(room.ask(1)), 16)

    def test_moving_sets_the_rover_back(self):
        room = with_gaps("next")
        room.ask(1)
        self.assertEqual(room.pieces(), pieces_of("l5 l3 f2 l5 f5 l5 f2"))
        self.assertEqual(room.grow(4, 7), 14)
        self.assertEqual(room.pieces(), pieces_of("l5 l3 l5 l9 f5"))
        room.give(0)
        # It stayed at the place where it was moved to, so no ask has set the rover since.
        self.assertEqual(room.place(room.ask(1)), 1)


class Give(unittest.TestCase):
    def test_free_pieces_are_joined(self):
        for word in WORDS:
            room = with_gaps(word)
            self.assertIsNone(room.give(2))
            self.assertEqual(room.pieces(), pieces_of("l5 f15 l5 f2"))
            self.assertEqual(room.handles(), [0, 4])
            room.give(4)
            room.give(0)
            self.assertEqual((room.pieces(), room.handles()), ([(0, 27, False)], []))

    def test_the_piece_of_the_handle_wherever_it_is(self):
        room = with_gaps()
        room.gather(12)
        room.give(4)
        self.assertEqual(room.pieces(), pieces_of("l5 l5 f17"))
        self.assertEqual((holds(room, 0), holds(room, 2)), ([7, 8, 9], [11, 12, 13]))


class Gather(unittest.TestCase):
    def test_nothing_is_moved(self):
        for word in WORDS:
            room = with_gaps(word)
            before = state(room)
            for need in (1, 2, 5):
                self.assertEqual(room.gather(need), 0)
                self.assertEqual(state(room), before)

    def test_nothing_is_moved_and_the_rover_stays(self):
        room = with_gaps("next")
        room.ask(1)
        self.assertEqual(room.gather(5), 0)
        room.give(0)
        # From the rover on, not from the free cells below it.
        self.assertEqual(room.place(room.ask(1)), 16)

    def test_a_moving_sets_the_rover_to_0(self):
        room = with_gaps("next")
        room.ask(1)
        room.give(0)
        self.assertEqual(room.pieces(), pieces_of("f5 l3 f2 l5 f5 l5 f2"))
        self.assertEqual(room.gather(6), 3)
        self.assertEqual(room.pieces(), pieces_of("l3 f7 l5 f5 l5 f2"))
        # From the rover of before, cell 8, on another one would be taken.
        self.assertEqual(room.place(room.ask(1)), 4)

    def test_pieces_are_moved(self):
        for word in WORDS:
            room = with_gaps(word)
            numbers = {handle: holds(room, handle) for handle in room.handles()}
            for need, moved, words, places in (
                (6, 5, "l5 l5 f10 l5 f2", [1, 6, 21]), (10, 0, "l5 l5 f10 l5 f2", [1, 6, 21]),
                (11, 5, "l5 l5 l5 f12", [1, 6, 11]), (12, 0, "l5 l5 l5 f12", [1, 6, 11]),
            ):
                self.assertEqual(room.gather(need), moved)
                self.assertEqual(room.pieces(), pieces_of(words))
                self.assertEqual([room.place(handle) for handle in (0, 2, 4)], places)
                self.assertEqual({handle: holds(room, handle) for handle in (0, 2, 4)}, numbers)
            self.assertEqual(room.handles(), [0, 2, 4])

    def test_handles_follow_their_pieces_and_not_their_numbers(self):
        room = Handles(40, "first")
        for count in (2, 4, 2, 3):
            room.ask(count)
        room.give(0)
        room.give(2)
        # The newest one lies lowest.
        self.assertEqual((room.ask(1), room.place(4)), (4, 1))
        numbers = {handle: fill(room, handle) for handle in room.handles()}
        self.assertEqual(room.pieces(), pieces_of("l3 f1 l6 f4 l5 f21"))
        self.assertEqual(room.gather(25), 5)
        self.assertEqual(room.gather(26), 11)
        self.assertEqual(room.pieces(), pieces_of("l3 l6 l5 f26"))
        self.assertEqual([room.place(handle) for handle in (1, 3, 4)], [4, 10, 1])
        self.assertEqual({handle: holds(room, handle) for handle in room.handles()}, numbers)

    def test_no_room(self):
        for word in WORDS:
            room = with_gaps(word)
            before = state(room)
            for need in (13, 27, 28, SIXTY, 10 ** 999):
                self.assertRaises(NoRoom, room.gather, need)
                self.assertEqual(state(room), before)
            full = Handles(3, word)
            full.ask(1)
            self.assertRaises(NoRoom, full.gather, 1)

    def test_a_room_without_live_pieces(self):
        room = Handles(9, "next")
        self.assertEqual([room.gather(need) for need in (1, 9)], [0, 0])
        self.assertRaises(NoRoom, room.gather, 10)
        self.assertEqual((room.pieces(), room.handles()), ([(0, 9, False)], []))


class Holders(unittest.TestCase):
    def test_put_and_get(self):
        room = with_gaps()
        for number in (0, 7, -1, SIXTY, -SIXTY, 54, 55):
            for k in range(3):
                self.assertIsNone(room.put(2, k, number + k))
            self.assertEqual(holds(room, 2), [number, number + 1, number + 2])
            self.assertEqual((holds(room, 0), holds(room, 4)), ([7, 8, 9], [15, 16, 17]))
            self.assertEqual(room.pieces(), pieces_of("l5 f5 l5 f5 l5 f2"))

    def test_put_behind_a_moving(self):
        room = with_gaps()
        room.gather(12)
        room.put(4, 2, SIXTY)
        self.assertEqual(holds(room, 4), [15, 16, SIXTY])
        self.assertEqual(room.cells()[13], SIXTY)
        self.assertEqual(walked(room.cells()), pieces_of("l5 l5 l5 f12"))


class Interface(unittest.TestCase):
    def test_names_and_arguments(self):
        self.assertEqual(str(inspect.signature(Handles)), "(size, word)")
        for name, things in (("ask", "(self, count)"), ("give", "(self, handle)"), ("grow", "(self, handle, count)"),
                             ("place", "(self, handle)"), ("many", "(self, handle)"), ("get", "(self, handle, k)"),
                             ("put", "(self, handle, k, number)"), ("gather", "(self, need)"), ("handles", "(self)"),
                             ("cells", "(self)"), ("pieces", "(self)")):
            self.assertEqual(str(inspect.signature(getattr(Handles, name))), things)


if __name__ == "__main__":
    unittest.main()
