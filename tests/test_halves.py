import unittest

from rooms import SIXTY, pieces_of, room, room_of
from stow.errors import NoCell, NoPiece, NoRoom, NoSize
from stow.halves import Halves
from stow.keepers import Keeper

SIZES = (1, 2, 4, 8, 16, 32, 64, 128, 256)


def halves_with(words):
    cells = room(words)
    keeper = Halves(len(cells))
    keeper.lay(cells)
    return keeper


# Blocks as a tree, told apart from the cells: True is a live block, False a free one, else a pair of two halves.


def trees(size):
    """All trees of a room of so many cells in which no two halves of one block are both free."""
    if size < 4:
        return [False]
    halves = trees(size // 2) if size >= 8 else []
    return [False, True] + [(low, high) for low in halves for high in halves if low or high]


def tree_pieces(tree, at, size):
    if isinstance(tree, bool):
        return [(at, size, tree)]
    half = size // 2
    return tree_pieces(tree[0], at, half) + tree_pieces(tree[1], at + half, half)


def cut_tree(size, block):
    return True if size == block else (cut_tree(size // 2, block), False)


def tree_with(tree, size, at, new):
    """The tree with the leaf that begins at a cell made new."""
    if isinstance(tree, bool):
        return new
    half = size // 2
    low, high = tree
    if at < half:
        low = tree_with(low, half, at, new)
    else:
        high = tree_with(high, half, at - half, new)
    return False if low is False and high is False else (low, high)


def asked_tree(tree, size, count):
    """The first cell of the block that is given out and the tree then, or None."""
    block = 1
    while block < count + 2:
        block += block
    free = [piece for piece in tree_pieces(tree, 0, size) if not piece[2] and piece[1] >= block]
    if not free:
        return None
    fewest = min(piece[1] for piece in free)
    at = min(piece[0] for piece in free if piece[1] == fewest)
    return at, tree_with(tree, size, at, cut_tree(fewest, block))


class Made(unittest.TestCase):
    def test_a_power_of_two_of_cells(self):
        for size in SIZES:
            with self.subTest(size=size):
                keeper = Halves(size)
                self.assertEqual(keeper.pieces(), [(0, size, False)])
                self.assertEqual(keeper.cells(), Keeper(size).cells())

    def test_no_size(self):
        powers = [1 << k for k in range(9)]
        for size in [size for size in range(-300, 301) if size not in powers] + [400, 511, SIXTY, -SIXTY, 3 << 199]:
            with self.subTest(size=size):
                self.assertRaises(NoSize, Halves, size)


class Ask(unittest.TestCase):
    def test_the_block_is_the_least_that_suffices(self):
        for count, block in ((1, 4), (2, 4), (3, 8), (5, 8), (6, 8), (7, 16), (13, 16), (14, 16), (15, 32), (30, 32),
                             (31, 64), (62, 64), (63, 128), (126, 128), (127, 256), (254, 256)):
            with self.subTest(count=count):
                keeper = Halves(256)
                self.assertEqual(keeper.ask(count), 1)
                self.assertEqual(keeper.pieces()[0], (0, block, True))
                self.assertEqual(keeper.many(1), block - 2)

    def test_the_upper_halves_are_free(self):
        for size in SIZES[2:]:
            for count, block in ((1, 4), (2, 4), (6, 8), (14, 16)):
                keeper = Halves(size)
                if block > size:
                    self.assertRaises(NoRoom, keeper.ask, count)
                    continue
                keeper.ask(count)
                uppers = [(long, long, False) for long in SIZES if block <= long < size]
                self.assertEqual(keeper.pieces(), [(0, block, True)] + uppers)

    def test_the_whole_room_and_more(self):
        for size in SIZES:
            keeper = Halves(size)
            for count in (size - 1, size, size + 1, 2 * size, SIXTY, 10 ** 999):
                if count > 0:
                    self.assertRaises(NoRoom, keeper.ask, count)
            self.assertEqual(keeper.cells(), Keeper(size).cells())
            if size >= 4:
                self.assertEqual(keeper.ask(size - 2), 1)
                self.assertEqual(keeper.pieces(), [(0, size, True)])
                self.assertRaises(NoRoom, keeper.ask, 1)

    def test_rooms_too_small_for_any(self):
        for size in (1, 2):
            for count in (1, 2, 6, size, SIXTY):
                self.assertRaises(NoRoom, Halves(size).ask, count)

    def test_the_fewest_cells_then_the_lowest(self):
        keeper = halves_with("f8 l8 l4 f4 f8")
        self.assertEqual(keeper.ask(1), 21)
        self.assertEqual(keeper.pieces(), pieces_of("f8 l8 l4 l4 f8"))
        self.assertEqual(keeper.ask(3), 1)
        self.assertEqual(keeper.pieces(), pieces_of("l8 l8 l4 l4 f8"))
        self.assertEqual(keeper.ask(2), 25)
        self.assertEqual(keeper.pieces(), pieces_of("l8 l8 l4 l4 l4 f4"))

    def test_a_greater_one_is_cut_where_it_is_the_only_one(self):
        keeper = halves_with("l4 f4 l8 f16")
        self.assertEqual(keeper.ask(3), 17)
        self.assertEqual(keeper.pieces(), pieces_of("l4 f4 l8 l8 f8"))
        keeper = halves_with("f16 l8 f8")
        self.assertEqual(keeper.ask(1), 25)
        self.assertEqual(keeper.pieces(), pieces_of("f16 l8 l4 f4"))

    def test_as_many_free_cells_that_are_not_one_block(self):
        keeper = halves_with("l8 f8 f8 l8")
        before = keeper.cells()
        self.assertRaises(NoRoom, keeper.ask, 7)
        self.assertEqual(keeper.cells(), before)

    def test_all_cells_of_the_block_are_the_holders(self):
        keeper = Halves(64)
        places = [keeper.ask(count) for count in (1, 3, 7)]
        self.assertEqual(places, [1, 9, 17])
        self.assertEqual([keeper.many(place) for place in places], [2, 6, 14])
        for place in places:
            for k in range(keeper.many(place)):
                keeper.put(place, k, 100 * place + k)
        for place in places:
            held = [keeper.get(place, k) for k in range(keeper.many(place))]
            self.assertEqual(held, [100 * place + k for k in range(len(held))])
            self.assertRaises(NoCell, keeper.put, place, len(held), 5)
        self.assertEqual(keeper.pieces(), pieces_of("l4 f4 l8 l16 f32"))


class Give(unittest.TestCase):
    def test_again_and_again(self):
        for size in SIZES[2:]:
            keeper = Halves(size)
            self.assertIsNone(keeper.give(keeper.ask(1)))
            self.assertEqual(keeper.pieces(), [(0, size, False)])

    def test_up_to_where_the_other_half_is_live(self):
        keeper = halves_with("l4 f4 f8 l4 f4 f8")
        keeper.give(1)
        self.assertEqual(keeper.pieces(), pieces_of("f16 l4 f4 f8"))
        keeper.give(17)
        self.assertEqual(keeper.pieces(), pieces_of("f32"))

    def test_with_the_other_half_ahead(self):
        keeper = halves_with("f16 f8 f4 l4")
        keeper.give(29)
        self.assertEqual(keeper.pieces(), pieces_of("f32"))

    def test_not_with_a_neighbour_that_is_not_its_other_half(self):
        keeper = halves_with("l8 l8 l8 l8")
        keeper.give(9)
        keeper.give(17)
        self.assertEqual(keeper.pieces(), pieces_of("l8 f8 f8 l8"))
        keeper.give(1)
        self.assertEqual(keeper.pieces(), pieces_of("f16 f8 l8"))
        keeper.give(25)
        self.assertEqual(keeper.pieces(), pieces_of("f32"))

    def test_not_with_another_length(self):
        keeper = halves_with("l8 f4 l4")
        keeper.give(1)
        self.assertEqual(keeper.pieces(), pieces_of("f8 f4 l4"))
        keeper = halves_with("f4 l4 l8")
        keeper.give(9)
        self.assertEqual(keeper.pieces(), pieces_of("f4 l4 f8"))
        keeper.give(5)
        self.assertEqual(keeper.pieces(), pieces_of("f16"))

    def test_the_whole_room(self):
        for size in SIZES[2:]:
            keeper = Halves(size)
            keeper.give(keeper.ask(size - 2))
            self.assertEqual(keeper.pieces(), [(0, size, False)])

    def test_cells_that_look_like_a_free_other_half(self):
        keeper = halves_with("l4 l4 f8")
        keeper.put(5, 0, 8)
        keeper.put(5, 1, 8)
        keeper.give(1)
        self.assertEqual(keeper.pieces(), pieces_of("f4 l4 f8"))

    def test_no_piece(self):
        keeper = halves_with("l4 f4 l8")
        before = keeper.cells()
        for place in (-SIXTY, -1, 0, 2, 3, 4, 5, 6, 8, 10, 15, 16, 17, SIXTY):
            self.assertRaises(NoPiece, keeper.give, place)
        self.assertEqual(keeper.cells(), before)


class Grow(unittest.TestCase):
    def test_it_stays_where_the_holder_has_as_many(self):
        keeper = Halves(32)
        place = keeper.ask(3)
        before = keeper.cells()
        # Six cells came of an ask for three.
        for count in (1, 2, 3, 4, 5, 6):
            self.assertEqual(keeper.grow(place, count), place)
            self.assertEqual(keeper.cells(), before)
        self.assertEqual(keeper.many(place), 6)

    def test_it_moves_with_what_the_holder_had_put(self):
        keeper = Halves(32)
        place = keeper.ask(3)
        for k in range(6):
            keeper.put(place, k, (70 + k) * SIXTY)
        self.assertEqual(keeper.grow(place, 7), 17)
        self.assertEqual([keeper.get(17, k) for k in range(6)], [(70 + k) * SIXTY for k in range(6)])
        self.assertEqual(keeper.many(17), 14)
        # The old block was joined with its other half, and the half above with it.
        self.assertEqual(keeper.pieces(), pieces_of("f16 l16"))

    def test_the_old_block_stands_while_the_new_one_is_asked_for(self):
        keeper = Halves(16)
        place = keeper.ask(1)
        keeper.put(place, 1, 9)
        self.assertEqual(keeper.grow(place, 3), 9)
        self.assertEqual(keeper.pieces(), pieces_of("f8 l8"))
        self.assertEqual(keeper.get(9, 1), 9)
        before = keeper.cells()
        for count in (7, 14, 15, 16, SIXTY):
            self.assertRaises(NoRoom, keeper.grow, 9, count)
            self.assertEqual(keeper.cells(), before)


class AllShortRooms(unittest.TestCase):
    """Every room up to 32 cells that halves can come to, each deed against the tree."""

    def check(self, keeper, tree, before):
        size = len(before)
        self.assertEqual(keeper.pieces(), tree_pieces(tree, 0, size))
        for at, long, live in keeper.pieces():
            if live and (at, long, live) in tree_pieces(self.tree, 0, size):
                self.assertEqual(keeper.cells()[at:at + long], before[at:at + long])

    def rooms(self):
        for size in (1, 2, 4, 8, 16, 32):
            for tree in trees(size):
                self.tree = tree
                keeper = Halves(size)
                yield size, tree, room_of(tree_pieces(tree, 0, size)), keeper

    def test_asks(self):
        for size, tree, cells, keeper in self.rooms():
            for count in (1, 2, 3, 6, 7, 14, 15, 30, 31):
                keeper.lay(cells)
                told = asked_tree(tree, size, count)
                if told is None:
                    self.assertRaises(NoRoom, keeper.ask, count)
                    self.assertEqual(keeper.cells(), cells)
                else:
                    self.assertEqual(keeper.ask(count), told[0] + 1)
                    self.check(keeper, told[1], cells)

    def test_gives(self):
        for size, tree, cells, keeper in self.rooms():
            for at, long, live in tree_pieces(tree, 0, size):
                keeper.lay(cells)
                if live:
                    keeper.give(at + 1)
                    self.check(keeper, tree_with(tree, size, at, False), cells)
                else:
                    self.assertRaises(NoPiece, keeper.give, at + 1)


if __name__ == "__main__":
    unittest.main()
