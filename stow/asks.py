"""Asks: what each of them is held to ahead of a keeper's own rule, and what it needs beside the holder's cells."""

from stow.errors import NoAsk, NoBound

# A live piece has these cells beside its holder's.
MARKS = 2


def check_ask(count, bound):
    if count < 1 or bound < 1:
        raise NoAsk("a count and a bound are 1 or more")


def check_plain_ask(count, bound):
    check_ask(count, bound)
    if bound != 1:
        raise NoBound("this keeper knows no bound but 1")
