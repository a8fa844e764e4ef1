"""Halves: a keeper whose pieces are blocks of a power of two of cells, cut into halves and made one again."""

from stow.asks import MARKS, check_plain_ask
from stow.errors import NoRoom, NoSize
from stow.keepers import Keeper
from stow.pieces import laid


def is_power(number):
    # The one bit of a power of two is gone in what is one less.
    return number >= 1 and (number & (number - 1)) == 0


def block_for(need):
    # One less, so that a power of two is a block for itself.
    return 1 << (need - 1).bit_length()


def least_free(pieces, block):
    fit = [(long, at) for at, long, live in pieces if not live and long >= block]
    if not fit:
        raise NoRoom("no free block has as many cells")
    long, at = min(fit)
    return at, long


def cut_down(cells, at, long, block):
    row = list(cells)
    while long > block:
        long = long // 2
        row = laid(row, at + long, long, False)
    return laid(row, at, block, True)


def grown_together(pieces, at, long):
    # The whole room ends this too: no piece begins where its other half would.
    while (at ^ long, long, False) in pieces:
        at = min(at, at ^ long)
        long = long * 2
    return at, long


class Halves(Keeper):
    def __init__(self, size):
        if not is_power(size):
            raise NoSize("a room of halves has a power of two of cells")
        Keeper.__init__(self, size)

    def ask(self, count, bound=1):
        check_plain_ask(count, bound)
        block = block_for(count + MARKS)
        at, long = least_free(self.pieces(), block)
        self.lay(cut_down(self.cells(), at, long, block))
        return at + 1

    def give(self, place):
        at, long = grown_together(self.pieces(), place - 1, self.many(place) + MARKS)
        self.lay(laid(self.cells(), at, long, False))
