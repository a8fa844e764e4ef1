import inspect
import itertools
import unittest

from rooms import (SIXTY, all_rooms, free_cells, live_begins, marked, pieces_by_plan, pieces_of, plan_by_trying, room,
                   walked)
from stow.errors import NoAsk, NoRoom
from stow.moving import best_plan, gathered

ROOMS = all_rooms(10)


def with_numbers(cells, pieces, number_of):
    """The cells with each holder's cell k of the piece that begins at a cell holding number_of(at, k)."""
    row = list(cells)
    for at, long, live in pieces:
        if live:
            row[at + 1:at + long - 1] = [number_of(at, k) for k in range(long - 2)]
    return row


def holdings(cells):
    """What each holder's cells hold, in the order of the live pieces."""
    return [cells[at + 1:at + long - 1] for at, long, live in walked(cells) if live]


def placings(longs, begin, count):
    """All ways to place pieces of these lengths in their order into the cells from begin on."""
    if not longs:
        return [()]
    found = []
    for at in range(begin, count - sum(longs) + 1):
        found += [(at,) + rest for rest in placings(longs[1:], at + longs[0], count)]
    return found


def widest_gap(begins, longs, count):
    ends = [0] + [at + long for at, long in zip(begins, longs)]
    return max(begin - end for begin, end in zip(list(begins) + [count], ends))


class Promise25(unittest.TestCase):
    def check(self, words, plans):
        cells = room(words)
        for need, plan in plans.items():
            with self.subTest(words=words, need=need):
                self.assertEqual(best_plan(cells, need), plan)

    def test_no_live_piece(self):
        self.check("f5", {1: (0, 0, 5), 4: (0, 0, 5), 5: (0, 0, 5), 6: None, SIXTY: None})
        self.check("f2 f1 f3", {1: (0, 0, 6), 3: (0, 0, 6), 6: (0, 0, 6), 7: None})
        self.check("f1", {1: (0, 0, 1), 2: None})

    def test_no_free_piece(self):
        for words in ("l3", "l4 l3", "l5 l3 l4"):
            self.check(words, {1: None, 2: None, 3: None, SIXTY: None})

    def test_one_gap_that_suffices_moves_nothing(self):
        self.check("f2 l3 f4 l3 f3", {1: (0, 0, 2), 2: (0, 0, 2), 3: (0, 5, 9), 4: (0, 5, 9)})

    def test_needs_that_take_two_gaps_and_all(self):
        self.check("f2 l3 f4 l3 f3", {5: (3, 0, 9), 6: (3, 0, 9), 7: (3, 5, 15)})
        self.check("f2 l3 f4 l3 f3", {8: (6, 0, 15), 9: (6, 0, 15), 10: None})

    def test_the_least_moved_goes_first(self):
        # Two gaps are enough on either side of the long piece, but the upper ones lie round a shorter one.
        self.check("f2 l9 f2 l4 f2", {3: (4, 11, 19), 4: (4, 11, 19), 5: (13, 0, 19)})

    def test_of_alike_ones_the_least_start(self):
        self.check("f2 l4 f2 l4 f2", {3: (4, 0, 8), 4: (4, 0, 8), 5: (8, 0, 14)})
        self.check("l3 f1 l3 f1 l3 f1", {1: (0, 3, 4), 2: (3, 3, 8), 3: (6, 3, 12)})

    def test_of_alike_ones_the_least_start_though_a_gap_above_is_larger(self):
        self.check("f3 l3 f9 l3 f3", {1: (0, 0, 3), 3: (0, 0, 3), 4: (0, 6, 15)})

    def test_a_start_may_stand_right_ahead_of_a_live_piece(self):
        # From 0 on the first piece would be moved, too; from behind it nothing is moved.
        self.check("l3 f2", {1: (0, 3, 5), 2: (0, 3, 5)})
        self.check("l3 l4 f2 l3", {2: (0, 7, 9)})

    def test_a_start_and_a_stop_with_no_cell_between(self):
        self.check("l3 l3 f1", {1: (0, 6, 7), 2: None})
        self.check("l3 l3", {1: None})

    def test_live_pieces_side_by_side(self):
        self.check("f1 l3 l4 f2", {1: (0, 0, 1), 2: (0, 8, 10), 3: (7, 0, 10), 4: None})
        self.check("f3 l3 l3 f1 l5 f2", {4: (6, 0, 10), 3: (0, 0, 3), 5: (11, 0, 17), 6: (11, 0, 17), 7: None})

    def test_free_pieces_side_by_side(self):
        self.check("f1 f2 l3 f1 f1", {2: (0, 0, 3), 3: (0, 0, 3), 4: (3, 0, 8), 5: (3, 0, 8), 6: None})
        self.check("l3 f1 f1 f1 l3 f2", {3: (0, 3, 6), 2: (0, 3, 6), 4: (3, 3, 11), 5: (3, 3, 11)})

    def test_holders_numbers_that_look_like_marks(self):
        cells = [4, 4, 11, 4, 2, 8, 11, 6, 0, 6]
        self.assertEqual(best_plan(cells, 3), (0, 7, 10))
        self.assertEqual(best_plan(cells, 4), (5, 0, 10))

    def test_every_short_room_and_every_need(self):
        for pieces, cells in ROOMS:
            for need in range(1, len(cells) + 2):
                self.assertEqual(best_plan(cells, need), plan_by_trying(pieces, need), (pieces, need))

    def test_none_just_where_all_free_cells_are_fewer(self):
        for pieces, cells in ROOMS:
            free = free_cells(pieces)
            self.assertIsNone(best_plan(cells, free + 1))
            self.assertIsNone(best_plan(cells, SIXTY))
            if free:
                self.assertIsNotNone(best_plan(cells, free))

    def test_a_room_of_400_cells(self):
        words = " ".join(["f1 l3"] * 100)
        self.check(words, {1: (0, 0, 1), 2: (3, 0, 5), 50: (147, 0, 197), 100: (297, 0, 397), 101: None})
        self.check("f400", {400: (0, 0, 400), 401: None})

    def test_a_row_without_cells(self):
        self.assertIsNone(best_plan([], 1))

    def test_a_tuple_of_three_whole_numbers(self):
        for need in (1, 4):
            plan = best_plan(room("f2 l3 f2"), need)
            self.assertIs(type(plan), tuple)
            self.assertEqual([type(part) for part in plan], [int, int, int])

    def test_the_cells_stay(self):
        cells = room("f2 l3 f1 f1 l4 f2")
        before = list(cells)
        for need in (1, 3, 6, 7):
            best_plan(cells, need)
            self.assertEqual(cells, before)


class Promise26(unittest.TestCase):
    def test_pieces_lie_end_to_end_from_start_on(self):
        cells = room("f2 l3 f1 l4 f3 l3")
        moved, told = gathered(cells, 6)
        self.assertEqual(moved, 7)
        self.assertEqual(walked(told), pieces_of("l3 l4 f6 l3"))
        self.assertEqual(holdings(told), holdings(cells))

    def test_all_other_pieces_stay(self):
        cells = room("f1 l3 f2 l4 f3 l5 f1 f1")
        moved, told = gathered(cells, 5)
        self.assertEqual(moved, 4)
        self.assertEqual(walked(told), pieces_of("f1 l3 l4 f5 l5 f1 f1"))
        # The cells ahead of the start and from the stop on are not touched at all.
        self.assertEqual(told[:4] + told[13:], cells[:4] + cells[13:])

    def test_a_plan_that_moves_nothing(self):
        cells = room("f1 l3 f2 l4 f3")
        for need in (1, 2, 3):
            self.assertEqual(gathered(cells, need), (0, cells))

    def test_a_plan_that_moves_nothing_makes_one_free_piece(self):
        moved, told = gathered(room("f1 l3 f2 f1 f1 l4 f1 f1"), 4)
        self.assertEqual((moved, walked(told)), (0, pieces_of("f1 l3 f4 l4 f1 f1")))
        moved, told = gathered(room("f1 f1 f1"), 1)
        self.assertEqual((moved, walked(told)), (0, pieces_of("f3")))

    def test_holders_numbers_that_look_like_marks_go_along(self):
        for numbers in ([7, 0, 7], [4, 4, 11], [2, 2, 2], [SIXTY, -SIXTY, 16]):
            cells = marked([0] * 12, pieces_of("f3 l5 f4"))
            cells[4:7] = numbers
            moved, told = gathered(cells, 7)
            self.assertEqual((moved, walked(told)), (5, pieces_of("l5 f7")))
            self.assertEqual(told[1:4], numbers)

    def test_a_long_piece_moves_by_one_cell(self):
        cells = room("f1 l9 f1 l3")
        moved, told = gathered(cells, 2)
        self.assertEqual((moved, walked(told)), (9, pieces_of("l9 f2 l3")))
        self.assertEqual(holdings(told), holdings(cells))

    def test_every_short_room_and_every_need(self):
        numbers = (lambda at, k: -1000 - 10 * at - k, lambda at, k: 2 * (at + 3) + 1, lambda at, k: 2 * (k + 1))
        for pieces, cells in ROOMS:
            # Other numbers in each room; the first ones are told apart cell by cell.
            for number_of in numbers:
                filled = with_numbers(cells, pieces, number_of)
                before = list(filled)
                for need in range(1, free_cells(pieces) + 1):
                    moved, told = gathered(filled, need)
                    plan = plan_by_trying(pieces, need)
                    self.assertEqual(moved, plan[0])
                    self.assertEqual(walked(told), pieces_by_plan(pieces, plan))
                    self.assertEqual(holdings(told), holdings(before))
                    self.assertEqual(filled, before)

    def test_a_need_below_one(self):
        for words in ("f5", "f2 l3 f2", "l3", "l3 l4"):
            cells = room(words)
            before = list(cells)
            for need in (0, -1, -5, -SIXTY):
                self.assertRaises(NoAsk, gathered, cells, need)
                self.assertEqual(cells, before)

    def test_a_need_beyond_all_free_cells(self):
        for words, free in (("f5", 5), ("f2 l3 f2", 4), ("l3", 0), ("l3 l4", 0), ("f1 f2 l3 f1", 4)):
            cells = room(words)
            before = list(cells)
            for need in (free + 1, free + 2, len(cells) + 1, SIXTY, 10 ** 999):
                self.assertRaises(NoRoom, gathered, cells, need)
                self.assertEqual(cells, before)
            if free:
                gathered(cells, free)
        self.assertRaises(NoRoom, gathered, [], 1)

    def test_what_is_told_is_the_askers_own(self):
        for need in (1, 4):
            cells = room("f2 l3 f2")
            before = list(cells)
            told = gathered(cells, need)
            self.assertEqual([type(part) for part in told], [int, list])
            self.assertIs(type(told), tuple)
            told[1][:] = [0] * 7
            self.assertEqual(cells, before)
            self.assertNotEqual(gathered(cells, need)[1], [0] * 7)

    def test_a_room_of_400_cells(self):
        cells = room(" ".join(["f1 l3"] * 100))
        moved, told = gathered(cells, 100)
        self.assertEqual((moved, walked(told)), (297, pieces_of(" ".join(["l3"] * 99 + ["f100", "l3"]))))
        self.assertEqual(holdings(told), holdings(cells))
        full = room(" ".join(["f1"] + ["l3"] * 132 + ["f3"]))
        moved, told = gathered(full, 4)
        self.assertEqual((moved, walked(told)), (396, pieces_of(" ".join(["l3"] * 132 + ["f4"]))))
        self.assertEqual(holdings(told), holdings(full))


class Promise27(unittest.TestCase):
    def test_the_moved_cells_are_those_of_pieces_that_begin_elsewhere(self):
        for pieces, cells in ROOMS:
            longs = [long for at, long, live in pieces if live]
            for need in range(1, free_cells(pieces) + 1):
                moved, told = gathered(cells, need)
                begins = zip(live_begins(pieces), live_begins(walked(told)), longs)
                self.assertEqual(moved, sum(long for old, new, long in begins if old != new), (pieces, need))
                self.assertGreaterEqual(widest_gap(live_begins(walked(told)), longs, len(cells)), need)

    def test_no_other_placing_in_order_moves_fewer(self):
        for count in range(1, 15):
            for longs in [longs for many in range(4) for longs in itertools.product((3, 4, 5), repeat=many)]:
                self.check_all_placings(count, longs)

    def check_all_placings(self, count, longs):
        found = placings(longs, 0, count)
        gaps = [(begins, widest_gap(begins, longs, count)) for begins in found]
        for old in found:
            pieces = [(at, long, True) for at, long in zip(old, longs)]
            cells = self.room_round(pieces, count)
            # The fewest cells moved for each width of a gap, over every placing.
            fewest = {}
            for new, gap in gaps:
                moved = sum(long for at, goal, long in zip(old, new, longs) if at != goal)
                fewest[gap] = min(moved, fewest.get(gap, moved))
            for need in range(1, count - sum(longs) + 1):
                least = min(moved for gap, moved in fewest.items() if gap >= need)
                self.assertEqual(gathered(cells, need)[0], least, (old, longs, need))

    def room_round(self, pieces, count):
        """Cells of these live pieces, with free ones between and round them."""
        words, end = [], 0
        for at, long, live in pieces + [(count, 0, True)]:
            words += [f"f{at - end}"] if at > end else []
            words += [f"l{long}"] if long else []
            end = at + long
        return room(" ".join(words))


class Interface(unittest.TestCase):
    def test_names_and_arguments(self):
        self.assertEqual(str(inspect.signature(best_plan)), "(cells, need)")
        self.assertEqual(str(inspect.signature(gathered)), "(cells, need)")


if __name__ == "__main__":
    unittest.main()
