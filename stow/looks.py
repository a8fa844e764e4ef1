"""The looker: tells the pieces of a row of cells, or the first cell that cannot be; and fresh rooms."""

from stow.errors import Broken, NoSize
from stow.marks import live_of, long_of, mark_of

# A live piece has two marks and at least one cell for its holder.
LEAST_LIVE = 3


def can_begin(cells, at):
    long = long_of(cells[at])
    if long < 1 or at + long > len(cells):
        return False
    return long >= LEAST_LIVE or not live_of(cells[at])


def bad_of_piece(cells, at):
    if not can_begin(cells, at):
        return at
    last = at + long_of(cells[at]) - 1
    if cells[last] != cells[at]:
        return last
    return None


def looked(cells):
    pieces = []
    at = 0
    while at < len(cells):
        bad = bad_of_piece(cells, at)
        if bad is not None:
            raise Broken(bad)
        long = long_of(cells[at])
        pieces.append((at, long, live_of(cells[at])))
        at = at + long
    return pieces


def first_bad(cells):
    # The one walk of looked serves here too, so that the two cannot disagree.
    try:
        looked(cells)
    except Broken as refusal:
        return refusal.cell
    return None


def fresh_room(count):
    if count < 1:
        raise NoSize("a room has one cell or more")
    cells = [0] * count
    cells[0] = mark_of(count, False)
    cells[count - 1] = mark_of(count, False)
    return cells
