"""Stow: a row of cells given out in pieces."""
