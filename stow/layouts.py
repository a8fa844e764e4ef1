"""Layouts: pieces without marks in a small room, told as tuples of pairs (at, long)."""


def layouts_from(begin, cells, most, top):
    # Each comes ahead of those that are greater as tuples: the one without pieces first, then by the lowest piece.
    found = [()]
    for at in range(begin, cells):
        for long in range(1, min(top, most, cells - at) + 1):
            rests = layouts_from(at + long, cells, most - long, top)
            found.extend([((at, long),) + rest for rest in rests])
    return found


def all_layouts(cells, most, top):
    return layouts_from(0, cells, most, top)


def lies_free(layout, at, size):
    return all([at + size <= begin or begin + long <= at for begin, long in layout])


def free_places(cells, layout, size):
    return [at for at in range(cells - size + 1) if lies_free(layout, at, size)]


def with_piece(layout, at, long):
    return tuple(sorted(layout + ((at, long),)))


def without_piece(layout, at):
    return tuple([pair for pair in layout if pair[0] != at])
