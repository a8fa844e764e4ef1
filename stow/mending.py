"""Mending: of any cells a room is made by changing as few of them as can be."""

from stow.asks import MARKS
from stow.marks import mark_of
from stow.pieces import laid


def pieces_up_to(end):
    free = [(at, end - at, False) for at in range(end)]
    # A live piece has a cell for its holder beside its marks.
    return free + [(at, end - at, True) for at in range(end - MARKS)]


def changes_for(cells, at, long, live):
    mark = mark_of(long, live)
    # A piece of one cell has both marks in that cell, which is changed once.
    ends = [cells[at]] if long == 1 else [cells[at], cells[at + long - 1]]
    return len([number for number in ends if number != mark])


def cheapest_ways(cells):
    # Way b is of the first b cells: its price, and the first cell of its last piece and whether that is live.
    ways = [(0, 0, False)]
    for end in range(1, len(cells) + 1):
        fit = [(ways[at][0] + changes_for(cells, at, long, live), at, live) for at, long, live in pieces_up_to(end)]
        ways.append(min(fit))
    return ways


def prices_of(cells):
    return [price for price, at, live in cheapest_ways(cells)]


def mended(cells):
    ways = cheapest_ways(cells)
    row = list(cells)
    end = len(row)
    while end > 0:
        price, at, live = ways[end]
        row = laid(row, at, end - at, live)
        end = at
    return row
