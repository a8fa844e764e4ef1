"""Moving together: live pieces between two staying edges move down, so that the free cells there are side by side."""

from stow.errors import NoAsk, NoRoom
from stow.looks import looked
from stow.pieces import carried, laid


def starts_of(pieces):
    # Each start and each stop comes with the live cells ahead of it: two of them tell all that lies between.
    starts = [(0, 0)]
    for at, long, live in pieces:
        if live:
            starts.append((at + long, starts[-1][1] + long))
    return starts


def stops_of(pieces, count):
    stops = []
    ahead = 0
    for at, long, live in pieces:
        if live:
            stops.append((at, ahead))
            ahead = ahead + long
    return stops + [(count, ahead)]


def best_plan(cells, need):
    pieces = looked(cells)
    stops = stops_of(pieces, len(cells))
    plans = []
    for start, ahead in starts_of(pieces):
        for stop, ahead_of_stop in stops:
            moved = ahead_of_stop - ahead
            if start <= stop and stop - start - moved >= need:
                plans.append((moved, start, stop))
    return min(plans, default=None)


def moved_down(cells, start, stop):
    row = list(cells)
    goal = start
    # From below to above: what is written over then has gone down already, or is free.
    for at, long, live in looked(cells):
        if live and start <= at and at < stop:
            row = carried(row, at, goal, long)
            goal = goal + long
    # A plan is made for free cells, so there is one or more of them here.
    return laid(row, goal, stop - goal, False)


def gathered(cells, need):
    if need < 1:
        raise NoAsk("a need is 1 or more")
    plan = best_plan(cells, need)
    if plan is None:
        raise NoRoom("all free cells together are fewer than the need")
    moved, start, stop = plan
    return moved, moved_down(cells, start, stop)
