"""Keepers of stretches: they keep their cells joined, and each chooses among the free pieces in its own way."""

from stow.asks import MARKS, check_ask
from stow.errors import NoName, NoRoom
from stow.keepers import Keeper
from stow.marks import long_of
from stow.pieces import begin_around, cut_out, free_end, freed, joined, laid, laid_free, live_at
from stow.places import spots_for


def least_place(ranked):
    # Each is (rank, first cell of the free piece, place in it), so of alike ranks the lowest piece goes first.
    if not ranked:
        return None
    return min(ranked)[2]


class Stretches(Keeper):
    def chosen(self, long, bound):
        return None

    def ask(self, count, bound=1):
        check_ask(count, bound)
        long = count + MARKS
        at = self.chosen(long, bound)
        if at is None:
            raise NoRoom("no free piece has a place for it")
        self.room_cells = cut_out(self.room_cells, begin_around(self.room_cells, at), at, long)
        self.room_granted(at + long)
        return at + 1

    def give(self, place):
        self.room_cells = freed(self.room_cells, place - 1)

    def grow(self, place, count, bound=1):
        at, had, live = live_at(self.room_cells, place - 1)
        check_ask(count, bound)
        long = count + MARKS
        end = free_end(self.room_cells, at + had)
        if place % bound != 0 or at + long > end:
            return self.room_moved(place, count, bound)
        self.room_cells = laid_free(laid(self.room_cells, at, long, True), at + long, end)
        return place

    def room_begin(self, cells):
        self.room_cells = joined(cells)

    def room_granted(self, behind):
        # Of these keepers Next alone keeps in mind where it gave out last.
        pass


class First(Stretches):
    def chosen(self, long, bound):
        spots = spots_for(self.room_cells, long, bound)
        return least_place([(0, at, place) for at, place in spots])


class Best(Stretches):
    def chosen(self, long, bound):
        cells = self.room_cells
        spots = spots_for(cells, long, bound)
        return least_place([(long_of(cells[at]), at, place) for at, place in spots])


class Next(Stretches):
    def __init__(self, size):
        Stretches.__init__(self, size)
        self.room_rover = 0

    def rover(self):
        return self.room_rover

    def chosen(self, long, bound):
        spots = spots_for(self.room_cells, long, bound)
        return least_place([(0 if at >= self.room_rover else 1, at, place) for at, place in spots])

    def room_begin(self, cells):
        self.room_cells = joined(cells)
        self.room_rover = 0

    def room_granted(self, behind):
        self.room_rover = behind


class Likes(Stretches):
    def chosen(self, long, bound):
        cells = self.room_cells
        spots = spots_for(cells, long, bound)
        return least_place([(long_of(cells[at]).bit_length(), at, place) for at, place in spots])


def stretches_of(word, size):
    if word == "first":
        return First(size)
    if word == "best":
        return Best(size)
    if word == "next":
        return Next(size)
    if word == "likes":
        return Likes(size)
    raise NoName("no keeper of stretches is called by this word")
