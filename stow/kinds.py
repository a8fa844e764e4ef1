"""Keepers of every kind, each made by its word."""

from stow.halves import Halves
from stow.rows import Row
from stow.shelves import Shelves
from stow.stretches import stretches_of


def keeper_of(word, size, shelf=8):
    if word == "halves":
        return Halves(size)
    if word == "shelves":
        return Shelves(size, shelf)
    if word == "row":
        return Row(size)
    # What is no keeper's word at all is refused there, ahead of its size.
    return stretches_of(word, size)
