"""Pieces in the cells: laid, told, cut out, freed, joined and carried; each answer is a row of its own."""

from stow.errors import NoPiece, NoRoom
from stow.looks import looked
from stow.marks import live_of, long_of, mark_of


def laid(cells, at, long, live):
    row = list(cells)
    row[at] = mark_of(long, live)
    row[at + long - 1] = mark_of(long, live)
    return row


def laid_free(cells, begin, end):
    # A piece has one cell or more: where none is left, there is none to lay.
    if begin == end:
        return list(cells)
    return laid(cells, begin, end - begin, False)


def piece_at(cells, at):
    for piece in looked(cells):
        if piece[0] == at:
            return piece
    raise NoPiece("no piece begins at this cell")


def live_at(cells, at):
    piece = piece_at(cells, at)
    if not piece[2]:
        raise NoPiece("the piece that begins at this cell is free")
    return piece


def free_at(cells, at):
    piece = piece_at(cells, at)
    if piece[2]:
        raise NoPiece("the piece that begins at this cell is live")
    return piece


def begin_around(cells, cell):
    begins = [at for at, long, live in looked(cells) if at <= cell]
    return begins[-1]


def free_begin(cells, at):
    # The cell right ahead of a piece is the last one of another, so a mark stands there.
    if at == 0 or live_of(cells[at - 1]):
        return at
    return at - long_of(cells[at - 1])


def free_end(cells, end):
    # The cell right behind a piece is the first one of another, so a mark stands there.
    if end == len(cells) or live_of(cells[end]):
        return end
    return end + long_of(cells[end])


def cut_out(cells, at, place, long):
    begin, free_long, live = free_at(cells, at)
    end = begin + free_long
    if place < begin or place + long > end:
        raise NoRoom("the live piece would not lie within the free one")
    row = laid_free(cells, begin, place)
    row = laid(row, place, long, True)
    return laid_free(row, place + long, end)


def freed(cells, at):
    begin, long, live = live_at(cells, at)
    return laid_free(cells, free_begin(cells, begin), free_end(cells, begin + long))


def joined_pieces(pieces):
    row = []
    for at, long, live in pieces:
        if row and not live and not row[-1][2]:
            row[-1] = (row[-1][0], row[-1][1] + long, False)
        else:
            row.append((at, long, live))
    return row


def joined(cells):
    row = list(cells)
    for at, long, live in joined_pieces(looked(cells)):
        row = laid(row, at, long, live)
    return row


def is_joined(cells):
    pieces = looked(cells)
    return len(joined_pieces(pieces)) == len(pieces)


def carried(cells, source, goal, count):
    row = list(cells)
    return row[:goal] + row[source:source + count] + row[goal + count:]
