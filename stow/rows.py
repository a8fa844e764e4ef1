"""A row: a keeper that gives out from below to above, and takes nothing back but all at once."""

from stow.asks import MARKS, check_plain_ask
from stow.errors import NoGive, NoRoom
from stow.keepers import Keeper
from stow.pieces import cut_out


class Row(Keeper):
    def ask(self, count, bound=1):
        check_plain_ask(count, bound)
        at, long, live = self.pieces()[-1]
        if live:
            raise NoRoom("the room's end is given out")
        self.lay(cut_out(self.cells(), at, at, count + MARKS))
        return at + 1

    def give(self, place):
        raise NoGive("a row takes back nothing but by clear")

    def grow(self, place, count, bound=1):
        raise NoGive("a row takes back nothing but by clear")
