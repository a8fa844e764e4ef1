"""Marks: whole numbers that tell how many cells a piece has and whether it is live."""


def is_whole(thing):
    # Python counts True and False among the ints.
    return isinstance(thing, int) and not isinstance(thing, bool)


def mark_of(long, live):
    if live:
        return (long << 1) | 1
    return long << 1


def long_of(number):
    return number >> 1


def live_of(number):
    return (number & 1) == 1
