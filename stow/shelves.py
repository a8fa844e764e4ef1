"""Shelves: a keeper whose room is cut into shelves, each of them whole or cut into slots of one size."""

from stow.asks import MARKS, check_plain_ask
from stow.errors import NoRoom, NoSize
from stow.keepers import Keeper
from stow.looks import fresh_room, looked
from stow.marks import long_of
from stow.pieces import laid


def all_whole(size, shelf):
    if size < 1 or shelf < 1 or size % shelf != 0:
        raise NoSize("a room has one shelf or more, and a shelf one cell or more")
    return fresh_room(shelf) * (size // shelf)


def begin_of(at, shelf):
    return at - at % shelf


def whole_ones(cells, shelf):
    return [at for at, long, live in looked(cells) if not live and long == shelf]


def free_slots(cells, shelf, size):
    fit = [at for at, long, live in looked(cells) if not live and long == size]
    # What is left of a shelf may have as many cells as a slot of another one; its shelf's first piece tells them apart.
    return [at for at in fit if long_of(cells[begin_of(at, shelf)]) == size]


def cut_for(cells, begin, shelf, size):
    row = list(cells)
    end = begin + shelf
    for at in range(begin, end, size):
        row = laid(row, at, min(size, end - at), False)
    return row


def with_slot(cells, shelf, size):
    if free_slots(cells, shelf, size):
        return cells
    begins = whole_ones(cells, shelf)
    if size > shelf or not begins:
        raise NoRoom("no shelf has a free slot of this size, and none can be cut for it")
    return cut_for(cells, begins[0], shelf, size)


def has_live(cells, begin, shelf):
    return any([live for at, long, live in looked(cells) if begin_of(at, shelf) == begin])


class Shelves(Keeper):
    def __init__(self, size, shelf):
        cells = all_whole(size, shelf)
        Keeper.__init__(self, size)
        self.shelf = shelf
        self.lay(cells)

    def clear(self):
        self.lay(all_whole(len(self.cells()), self.shelf))

    def ask(self, count, bound=1):
        check_plain_ask(count, bound)
        size = count + MARKS
        cells = with_slot(self.cells(), self.shelf, size)
        at = free_slots(cells, self.shelf, size)[0]
        self.lay(laid(cells, at, size, True))
        return at + 1

    def give(self, place):
        cells = laid(self.cells(), place - 1, self.many(place) + MARKS, False)
        begin = begin_of(place - 1, self.shelf)
        if not has_live(cells, begin, self.shelf):
            cells = laid(cells, begin, self.shelf, False)
        self.lay(cells)
