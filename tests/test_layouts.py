import inspect
import itertools
import unittest

from stow.layouts import all_layouts, free_places, with_piece, without_piece

ROOMS = [(cells, most, top) for cells in range(1, 7) for most in range(1, 6) for top in range(1, 4)]


def layout_of(signs):
    """The layout of a word of one sign a cell: 0 in no piece, 1 where one begins, 2 where one goes on; or None."""
    pairs = []
    for cell, sign in enumerate(signs):
        if sign == 1:
            pairs.append((cell, 1))
        if sign == 2:
            if cell == 0 or signs[cell - 1] == 0:
                return None
            pairs[-1] = (pairs[-1][0], pairs[-1][1] + 1)
    return tuple(pairs)


def layouts_by_trying(cells, most, top):
    told = [layout_of(signs) for signs in itertools.product((0, 1, 2), repeat=cells)]
    return sorted(layout for layout in told if layout is not None and keeps_to(layout, most, top))


def keeps_to(layout, most, top):
    longs = [long for at, long in layout]
    return sum(longs) <= most and max(longs, default=1) <= top


def counted(cells, most, top):
    """How many layouts there are, by the last cell alone: free, or the end of a piece."""
    if cells <= 0:
        return 1
    return counted(cells - 1, most, top) + sum(
        counted(cells - long, most - long, top) for long in range(1, min(cells, most, top) + 1))


def free_by_trying(cells, layout, size):
    taken = {cell for at, long in layout for cell in range(at, at + long)}
    free = [cell for cell in range(cells) if cell not in taken]
    return [at for at in range(cells) if all(at + k in free for k in range(size))]


class Promise30(unittest.TestCase):
    def test_small_rooms(self):
        self.assertEqual(all_layouts(1, 1, 1), [(), ((0, 1),)])
        self.assertEqual(all_layouts(2, 2, 2), [(), ((0, 1),), ((0, 1), (1, 1)), ((0, 2),), ((1, 1),)])
        self.assertEqual(all_layouts(3, 1, 3), [(), ((0, 1),), ((1, 1),), ((2, 1),)])
        self.assertEqual(all_layouts(3, 3, 1), [
            (), ((0, 1),), ((0, 1), (1, 1)), ((0, 1), (1, 1), (2, 1)), ((0, 1), (2, 1)), ((1, 1),), ((1, 1), (2, 1)),
            ((2, 1),)])

    def test_every_room_most_and_top(self):
        for cells, most, top in ROOMS:
            with self.subTest(cells=cells, most=most, top=top):
                told = all_layouts(cells, most, top)
                self.assertEqual(told, layouts_by_trying(cells, most, top))
                self.assertEqual(len(told), counted(cells, most, top))

    def test_a_piece_is_at_most_top_and_all_at_most_most(self):
        self.assertIn(((0, 3),), all_layouts(3, 3, 3))
        self.assertNotIn(((0, 3),), all_layouts(3, 3, 2))
        self.assertNotIn(((0, 3),), all_layouts(3, 2, 3))
        self.assertIn(((0, 2), (2, 3)), all_layouts(5, 5, 3))
        self.assertNotIn(((0, 2), (2, 3)), all_layouts(5, 4, 3))
        self.assertIn(((0, 3), (3, 2)), all_layouts(5, 5, 3))

    def test_a_top_and_a_most_beyond_the_cells(self):
        self.assertEqual(all_layouts(1, 5, 3), [(), ((0, 1),)])
        self.assertEqual(all_layouts(2, 5, 3), all_layouts(2, 2, 2))

    def test_a_list_of_tuples_of_pairs(self):
        told = all_layouts(4, 3, 2)
        self.assertIs(type(told), list)
        for layout in told:
            self.assertIs(type(layout), tuple)
            for pair in layout:
                self.assertIs(type(pair), tuple)
                self.assertEqual([type(part) for part in pair], [int, int])

    def test_free_places_at_the_ends_and_between(self):
        layout = ((1, 1), (4, 1))
        self.assertEqual(free_places(6, layout, 1), [0, 2, 3, 5])
        self.assertEqual(free_places(6, layout, 2), [2])
        self.assertEqual(free_places(6, layout, 3), [])
        self.assertEqual(free_places(6, ((0, 2), (3, 3)), 1), [2])
        self.assertEqual(free_places(6, ((0, 2), (3, 3)), 2), [])
        self.assertEqual(free_places(6, ((2, 2),), 2), [0, 4])

    def test_free_places_of_a_room_without_pieces_and_of_a_full_one(self):
        self.assertEqual([free_places(3, (), size) for size in (1, 2, 3, 4)], [[0, 1, 2], [0, 1], [0], []])
        self.assertEqual(free_places(1, (), 1), [0])
        for size in (1, 2, 3):
            self.assertEqual(free_places(4, ((0, 1), (1, 3)), size), [])

    def test_every_free_place(self):
        for cells in range(1, 7):
            for layout in all_layouts(cells, 5, 3):
                for size in range(1, 5):
                    told = free_places(cells, layout, size)
                    self.assertEqual(told, free_by_trying(cells, layout, size), (layout, size))
                    self.assertIs(type(told), list)

    def test_with_piece_ahead_between_and_behind(self):
        self.assertEqual(with_piece((), 2, 3), ((2, 3),))
        self.assertEqual(with_piece(((2, 1), (4, 1)), 0, 2), ((0, 2), (2, 1), (4, 1)))
        self.assertEqual(with_piece(((2, 1), (4, 1)), 3, 1), ((2, 1), (3, 1), (4, 1)))
        self.assertEqual(with_piece(((2, 1), (4, 1)), 5, 1), ((2, 1), (4, 1), (5, 1)))

    def test_without_each(self):
        layout = ((0, 2), (2, 1), (4, 2))
        self.assertEqual(without_piece(layout, 0), ((2, 1), (4, 2)))
        self.assertEqual(without_piece(layout, 2), ((0, 2), (4, 2)))
        self.assertEqual(without_piece(layout, 4), ((0, 2), (2, 1)))
        self.assertEqual(without_piece(((3, 1),), 3), ())

    def test_one_undoes_the_other(self):
        for layout in all_layouts(6, 5, 3):
            for at, long in layout:
                left = without_piece(layout, at)
                self.assertIs(type(left), tuple)
                self.assertEqual(set(left), set(layout) - {(at, long)})
                self.assertEqual(with_piece(left, at, long), layout)
            for size in (1, 2, 3):
                for at in free_places(6, layout, size):
                    more = with_piece(layout, at, size)
                    self.assertIs(type(more), tuple)
                    self.assertEqual(list(more), sorted(set(layout) | {(at, size)}))
                    self.assertEqual(without_piece(more, at), layout)

    def test_what_is_told_is_the_askers_own(self):
        told = all_layouts(2, 2, 2)
        told.clear()
        self.assertEqual(len(all_layouts(2, 2, 2)), 5)
        told = free_places(3, (), 1)
        told.clear()
        self.assertEqual(free_places(3, (), 1), [0, 1, 2])

    def test_the_layout_stays(self):
        layout = ((1, 1), (3, 2))
        free_places(6, layout, 1)
        with_piece(layout, 0, 1)
        without_piece(layout, 1)
        self.assertEqual(layout, ((1, 1), (3, 2)))


class Interface(unittest.TestCase):
    def test_names_and_arguments(self):
        self.assertEqual(str(inspect.signature(all_layouts)), "(cells, most, top)")
        self.assertEqual(str(inspect.signature(free_places)), "(cells, layout, size)")
        self.assertEqual(str(inspect.signature(with_piece)), "(layout, at, long)")
        self.assertEqual(str(inspect.signature(without_piece)), "(layout, at)")


if __name__ == "__main__":
    unittest.main()
