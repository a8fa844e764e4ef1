"""Promise [4]: long rows of drawn deeds, each checked against a plain account of what was given out."""

import random
import unittest

from rooms import SIXTY, block_by_trying, chosen_by_trying, kept_as, walked
from stow.errors import NoAsk, NoBound, NoGive, NoPiece, NoRoom
from stow.keepers import Keeper
from stow.kinds import keeper_of
from stow.pieces import cut_out

STRETCHES = ("first", "best", "next", "likes")
# Each is a room's cells, a shelf's, and how many deeds are drawn.
ROWS = ((1, 1, 30), (2, 2, 30), (3, 3, 60), (5, 5, 100), (12, 4, 300), (40, 10, 400), (120, 12, 300), (400, 16, 200))
HALVES = ((1, 1, 30), (2, 1, 30), (4, 1, 60), (8, 1, 100), (16, 1, 300), (64, 1, 400), (128, 1, 300), (256, 1, 200))


class Lowest(Keeper):
    """A keeper with the rule of first, made as one of a higher stage is; it joins nothing."""

    def ask(self, count, bound=1):
        at = chosen_by_trying("first", 0, self.pieces(), count + 2, bound)
        if at is None:
            raise NoRoom("none")
        begin = [piece[0] for piece in self.pieces() if piece[0] <= at][-1]
        self.lay(cut_out(self.cells(), begin, at, count + 2))
        return at + 1


class Account:
    """Plays drawn deeds on a keeper and keeps account: for each place what its holder's cells hold (None: unknown)."""

    def __init__(self, case, word, size, shelf, seed):
        self.case, self.word, self.size, self.shelf, self.draw = case, word, size, shelf, random.Random(seed)
        self.stretches = word in STRETCHES
        self.keeper = self.made()
        self.held, self.rover = {}, 0
        self.moved = self.stayed = self.refused = 0

    def made(self):
        if self.word == "plain":
            return Lowest(self.size)
        return keeper_of(self.word, self.size, self.shelf)

    def count(self):
        return self.draw.randint(1, self.draw.choice((3, 8, self.size + 1)))

    def bound(self):
        return self.draw.choice((1, 1, 1, 2, 3, 4, 8)) if self.stretches else 1

    def place(self):
        return self.draw.choice(sorted(self.held))

    def chosen(self, count, bound):
        pieces = walked(self.keeper.cells())
        return chosen_by_trying(self.word, self.rover, pieces, count + 2, bound, self.shelf)

    def given(self, at, count, held):
        """Notes a piece that was given out, whose holder's first cells hold this."""
        self.rover = at + count + 2
        many = block_by_trying(count + 2) - 2 if self.word == "halves" else count
        self.held[at + 1] = held[:count] + [None] * (many - len(held[:count]))

    def ask(self):
        count, bound = self.count(), self.bound()
        at = self.chosen(count, bound)
        if at is None:
            self.refuse(NoRoom, lambda: self.keeper.ask(count, bound))
            return
        place = self.keeper.ask(count, bound)
        self.case.assertEqual(place, at + 1)
        self.case.assertEqual(place % bound, 0)
        self.given(at, count, [])

    def give(self):
        place = self.place()
        if self.word == "row":
            self.refuse(NoGive, lambda: self.keeper.give(place))
            return
        self.keeper.give(place)
        del self.held[place]

    def put(self):
        place = self.place()
        k = self.draw.randrange(len(self.held[place]))
        # Many of them look like marks.
        number = self.draw.choice((self.draw.randint(-9, 30), 2 * self.size, 2 * self.size + 1, SIXTY, -SIXTY))
        self.keeper.put(place, k, number)
        self.held[place][k] = number

    def grow(self):
        place, count, bound = self.place(), self.count(), self.bound()
        if self.word == "row":
            self.refuse(NoGive, lambda: self.keeper.grow(place, count, bound))
            return
        held = self.held[place]
        if self.stays(place, count, bound):
            self.case.assertEqual(self.keeper.grow(place, count, bound), place)
            if self.stretches:
                self.held[place] = held[:count] + [None] * (count - len(held))
            self.stayed += 1
            return
        at = self.chosen(count, bound)
        if at is None:
            self.refuse(NoRoom, lambda: self.keeper.grow(place, count, bound))
            return
        self.case.assertEqual(self.keeper.grow(place, count, bound), at + 1)
        del self.held[place]
        self.given(at, count, held)
        self.moved += 1

    def stays(self, place, count, bound):
        if not self.stretches:
            return len(self.held[place]) >= count
        room = len(self.held[place]) + 2
        for at, long, live in walked(self.keeper.cells()):
            if at == place - 1 + len(self.held[place]) + 2 and not live:
                room += long
        return place % bound == 0 and room >= count + 2

    def wrong(self):
        beside = [place for place in range(-1, self.size + 2) if place not in self.held]
        place = self.draw.choice(beside)
        first = NoGive if self.word == "row" else NoPiece
        self.refuse(first, lambda: self.keeper.give(place))
        self.refuse(first, lambda: self.keeper.grow(place, 1))
        self.refuse(NoPiece, lambda: self.keeper.put(place, 0, 1))
        self.refuse(NoPiece, lambda: self.keeper.many(place))
        if self.word != "plain":
            self.refuse(NoAsk, lambda: self.keeper.ask(0))
        if self.held and self.word != "row":
            self.refuse(NoAsk, lambda: self.keeper.grow(self.place(), 0))
        if self.word in ("halves", "shelves", "row"):
            self.refuse(NoBound, lambda: self.keeper.ask(self.count(), 2))

    def refuse(self, refusal, call):
        before = self.keeper.cells()
        self.case.assertRaises(refusal, call)
        self.case.assertEqual(self.keeper.cells(), before)
        self.refused += 1

    def anew(self):
        self.rover = 0
        if self.draw.random() < 0.3:
            self.keeper.clear()
            self.case.assertEqual(self.keeper.cells(), self.made().cells())
            self.held = {}
            return
        cells = self.keeper.cells()
        if self.draw.random() < 0.5:
            # All is told by the cells, so another keeper goes on with them.
            self.keeper = self.made()
        self.keeper.lay(cells)

    def deed(self):
        deeds = ["ask"] * 6 + ["wrong"]
        if self.held:
            deeds += ["give"] * 4 + ["grow"] * 5 + ["put"] * 8
        if self.draw.random() < 0.02:
            deeds = ["anew"]
        getattr(self, self.draw.choice(deeds))()

    def check(self):
        cells = self.keeper.cells()
        pieces = walked(cells)
        self.case.assertEqual(self.keeper.pieces(), pieces)
        self.case.assertEqual(len(cells), self.size)
        live = {at + 1: long - 2 for at, long, live in pieces if live}
        self.case.assertEqual(live, {place: len(held) for place, held in self.held.items()})
        for place, held in self.held.items():
            for k, number in enumerate(held):
                if number is not None:
                    self.case.assertEqual(cells[place + k], number)
        if self.word != "plain":
            self.case.assertTrue(kept_as(self.word, pieces, self.shelf), pieces)
        if self.word == "next":
            self.case.assertEqual(self.keeper.rover(), self.rover)
        self.check_one()

    def check_one(self):
        if self.held:
            place = self.place()
            held = self.held[place]
            self.case.assertEqual(self.keeper.many(place), len(held))
            for k, number in enumerate(held):
                if number is not None:
                    self.case.assertEqual(self.keeper.get(place, k), number)


class Promise4(unittest.TestCase):
    def test_drawn_deeds(self):
        for word in STRETCHES + ("halves", "shelves", "row", "plain"):
            for size, shelf, deeds in HALVES if word == "halves" else ROWS:
                for seed in (11, 12, 13):
                    with self.subTest(word=word, size=size, seed=seed):
                        account = Account(self, word, size, shelf, seed)
                        account.check()
                        for turn in range(deeds):
                            account.deed()
                            account.check()
                        if size in (40, 64, 120, 128) and word != "row":
                            # The rows tell something only where all of these came up.
                            self.assertTrue(account.moved and account.stayed and account.refused)

    def test_all_can_be_given_back(self):
        for word in STRETCHES + ("halves", "shelves"):
            account = Account(self, word, 64, 16, 21)
            at_first = account.keeper.pieces()
            for turn in range(200):
                account.deed()
            while account.held:
                account.give()
                account.check()
            self.assertEqual(account.keeper.pieces(), at_first)


if __name__ == "__main__":
    unittest.main()
