"""Keepers: a room whose live pieces are named by their holders' first cells; the rule is that of a class under it."""

from stow.asks import MARKS, check_plain_ask
from stow.errors import NoCell, NoRoom, NoSize
from stow.looks import fresh_room, looked
from stow.pieces import carried, laid, live_at


class Keeper:
    def __init__(self, size):
        self.room_cells = fresh_room(size)

    def cells(self):
        return list(self.room_cells)

    def pieces(self):
        return looked(self.room_cells)

    def lay(self, cells):
        if len(cells) != len(self.room_cells):
            raise NoSize("a keeper goes on with as many cells as it has")
        # Asked for its refusal alone, ahead of any change.
        looked(cells)
        self.room_begin(cells)

    def clear(self):
        self.room_begin(fresh_room(len(self.room_cells)))

    def many(self, place):
        at, long, live = live_at(self.room_cells, place - 1)
        return long - MARKS

    def get(self, place, k):
        return self.room_cells[self.room_cell_of(place, k)]

    def put(self, place, k, number):
        cell = self.room_cell_of(place, k)
        self.room_cells[cell] = number

    def ask(self, count, bound=1):
        check_plain_ask(count, bound)
        raise NoRoom("a plain keeper has no rule to find a place by")

    def give(self, place):
        at, long, live = live_at(self.room_cells, place - 1)
        self.room_cells = laid(self.room_cells, at, long, False)

    def grow(self, place, count, bound=1):
        had = self.many(place)
        check_plain_ask(count, bound)
        if had >= count:
            return place
        return self.room_moved(place, count, bound)

    def room_begin(self, cells):
        self.room_cells = list(cells)

    def room_cell_of(self, place, k):
        # Read ahead of k, since NoPiece goes first.
        many = self.many(place)
        if k < 0 or k >= many:
            raise NoCell("the holder has no such cell")
        return place + k

    def room_moved(self, place, count, bound):
        goal = self.ask(count, bound)
        self.room_cells = carried(self.room_cells, place, goal, min(self.many(place), count))
        self.give(place)
        return goal
