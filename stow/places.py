"""Places: where in a free piece a live one may begin, so that its holder's first cell keeps to a bound."""

from stow.looks import looked


def first_place(piece, long, bound):
    at, piece_long, live = piece
    # The holder's first cell, at + 1 at the lowest, is raised to the next multiple of the bound.
    place = at + (-(at + 1)) % bound
    if place + long > at + piece_long:
        return None
    return place


def spots_for(cells, long, bound):
    spots = []
    for piece in looked(cells):
        place = first_place(piece, long, bound)
        if not piece[2] and place is not None:
            spots.append((piece[0], place))
    return spots
