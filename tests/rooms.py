"""Rooms for the tests, made by arithmetic alone, not by the program."""

# A number of sixty figures.
SIXTY = 10 ** 59 + 7


def pieces_of(words):
    """Pieces from words such as "f2 l5 f1": free ones and live ones, end to end from cell 0."""
    pieces, at = [], 0
    for word in words.split():
        long = int(word[1:])
        pieces.append((at, long, word[0] == "l"))
        at += long
    return pieces


def marked(cells, pieces):
    """The cells with the marks of these pieces and no other change."""
    row = list(cells)
    for at, long, live in pieces:
        row[at] = row[at + long - 1] = 2 * long + (1 if live else 0)
    return row


def room(words):
    """Cells of these pieces; all between the marks are unlike one another and unlike any mark."""
    return room_of(pieces_of(words))


def room_of(pieces):
    count = sum(long for at, long, live in pieces)
    return marked([-1000 - cell for cell in range(count)], pieces)


def all_pieces(count, at=0):
    """All ways to fill so many cells with pieces."""
    if at == count:
        return [[]]
    found = []
    for long in range(1, count - at + 1):
        for live in (False, True):
            if long >= 3 or not live:
                found += [[(at, long, live)] + rest for rest in all_pieces(count, at + long)]
    return found


def all_rooms(most):
    """All rooms of one to so many cells, as (pieces, cells)."""
    return [(pieces, room_of(pieces)) for count in range(1, most + 1) for pieces in all_pieces(count)]


def run_together(pieces):
    """The pieces with each row of free ones made one."""
    told = []
    for at, long, live in pieces:
        if told and not live and not told[-1][2]:
            at, ahead, live = told.pop()
            long += ahead
        told.append((at, long, live))
    return told


def walked(cells):
    """The pieces of cells, by one walk from cell 0; no cells are handed in that tell none."""
    pieces, at = [], 0
    while at < len(cells):
        long, live = cells[at] // 2, cells[at] % 2 == 1
        assert long >= (3 if live else 1) and cells[at + long - 1] == cells[at]
        pieces.append((at, long, live))
        at += long
    assert at == len(cells)
    return pieces


def first_by_trying(piece, long, bound):
    """The first place in a piece, cell by cell."""
    for place in range(piece[0], piece[0] + piece[1] - long + 1):
        if (place + 1) % bound == 0:
            return place
    return None


def chosen_by_trying(word, rover, pieces, long, bound, shelf=8):
    """What the words of the document choose, over a list of pieces."""
    if word == "shelves":
        return chosen_on_shelves(pieces, long, shelf)
    if word == "halves":
        long = block_by_trying(long)
    if word == "row":
        pieces = pieces[-1:]
    fit = [piece for piece in pieces if not piece[2] and first_by_trying(piece, long, bound) is not None]
    if not fit:
        return None
    if word in ("best", "halves"):
        fewest = min(piece[1] for piece in fit)
        fit = [piece for piece in fit if piece[1] == fewest]
    if word == "likes":
        least = min(len(bin(piece[1])) for piece in fit)
        fit = [piece for piece in fit if len(bin(piece[1])) == least]
    if word == "next":
        fit = [piece for piece in fit if piece[0] >= rover] or fit
    return first_by_trying(fit[0], long, bound)


def block_by_trying(long):
    block = 1
    while block < long:
        block += block
    return block


def by_shelf(pieces, shelf):
    """The pieces of each shelf by themselves, from below to above."""
    count = pieces[-1][0] // shelf + 1
    return [[piece for piece in pieces if piece[0] // shelf == k] for k in range(count)]


def chosen_on_shelves(pieces, long, shelf):
    rows = by_shelf(pieces, shelf)
    for row in rows:
        free = [at for at, slot, live in row if slot == long and not live]
        if row[0][1] == long and row[0][1] < shelf and free:
            return free[0]
    whole = [row[0][0] for row in rows if row[0][1] == shelf and not row[0][2]]
    return whole[0] if whole and long <= shelf else None


def kept_as(word, pieces, shelf=8):
    """Whether pieces that lie end to end are such as the keeper of this word keeps them."""
    if word == "halves":
        blocks = all(bin(long).count("1") == 1 and at % long == 0 for at, long, live in pieces)
        return blocks and not any((at ^ long, long, False) in pieces for at, long, live in pieces if not live)
    if word == "shelves":
        return all(kept_as_shelf(row, shelf) for row in by_shelf(pieces, shelf))
    if word == "row":
        return all(live for at, long, live in pieces[:-1])
    return run_together(pieces) == pieces


def kept_as_shelf(row, shelf):
    longs = [long for at, long, live in row]
    if not any(live for at, long, live in row):
        return longs == [shelf]
    left = [shelf % longs[0]] if shelf % longs[0] else []
    return longs == [longs[0]] * (shelf // longs[0]) + left and not (left and row[-1][2])


def live_begins(pieces):
    return [at for at, long, live in pieces if live]


def free_cells(pieces):
    return sum(long for at, long, live in pieces if not live)


def plan_by_trying(pieces, need):
    """The best plan over all starts and stops, with the cells between them counted one by one."""
    count = sum(long for at, long, live in pieces)
    live_cells = {cell for at, long, live in pieces if live for cell in range(at, at + long)}
    best = None
    for start in [0] + [at + long for at, long, live in pieces if live]:
        for stop in live_begins(pieces) + [count]:
            moved = len(live_cells & set(range(start, stop)))
            fits = start <= stop and stop - start - moved >= need
            if fits and (best is None or moved < best[0] or moved == best[0] and (start, stop) < best[1:]):
                best = (moved, start, stop)
    return best


def pieces_by_plan(pieces, plan):
    """The pieces behind a moving by this plan."""
    start, stop = plan[1:]
    told = [piece for piece in pieces if piece[0] < start]
    for long in [long for at, long, live in pieces if live and start <= at < stop]:
        told.append((start, long, True))
        start += long
    return told + [(start, stop - start, False)] + [piece for piece in pieces if piece[0] >= stop]
