"""Promise [4] by handles: long rows of drawn deeds, each checked against a plain account of what was given out."""

import random
import unittest

from rooms import (SIXTY, chosen_by_trying, free_cells, live_begins, pieces_by_plan, plan_by_trying, run_together,
                   walked)
from stow.errors import NoAsk, NoCell, NoHandle, NoRoom
from stow.handles import Handles

WORDS = ("first", "best", "next", "likes")
# Each is a room's cells and how many deeds are drawn.
ROWS = ((1, 20), (2, 20), (3, 60), (7, 150), (12, 300), (30, 500), (60, 400), (120, 200), (400, 60))


class Account:
    """Plays drawn deeds by handles and keeps account: for each handle the first cell of its piece, and what its
    holder's cells hold (None: unknown). The free pieces are what is left between, so they are told by these."""

    def __init__(self, case, word, size, seed):
        self.case, self.word, self.size, self.draw = case, word, size, random.Random(seed)
        self.room = Handles(size, word)
        self.begins, self.held, self.given = {}, {}, []
        self.rover = self.coming = 0
        self.came = {}

    def note(self, what):
        self.came[what] = self.came.get(what, 0) + 1

    def count(self):
        return self.draw.randint(1, self.draw.choice((3, 8, max(1, self.size // 3), self.size + 1)))

    def handle(self):
        return self.draw.choice(sorted(self.held))

    def long(self, handle):
        return len(self.held[handle]) + 2

    def rising(self):
        """The handles by where their pieces lie."""
        return sorted(self.held, key=self.begins.get)

    def pieces(self):
        told, end = [], 0
        for handle in self.rising():
            at = self.begins[handle]
            if at > end:
                told.append((end, at - end, False))
            end = at + self.long(handle)
            told.append((at, self.long(handle), True))
        return told + ([(end, self.size - end, False)] if end < self.size else [])

    def chosen(self, need):
        return chosen_by_trying(self.word, self.rover, self.pieces(), need, 1)

    def goal(self, handle, need):
        """Where a piece of so many cells would begin that this handle's is to become."""
        at = self.begins[handle]
        ends = [begin + long for begin, long, live in self.pieces() if begin == at + self.long(handle) and not live]
        if at + need <= max(ends + [at + self.long(handle)]):
            return at
        return self.chosen(need)

    def settle(self, need):
        """Moves together in the account, and tells how many cells are moved."""
        plan = plan_by_trying(self.pieces(), need)
        if plan[0] > 0:
            self.begins = dict(zip(self.rising(), live_begins(pieces_by_plan(self.pieces(), plan))))
            self.rover = 0
        return plan[0]

    def found(self, find, need, call):
        """Where find finds a place, perhaps behind a moving; where all free cells are too few the call is refused."""
        at = find()
        if at is None and free_cells(self.pieces()) < need:
            self.refuse(NoRoom, call)
            self.note("refused")
            return None
        if at is None:
            self.case.assertGreater(self.settle(need), 0)
            self.note(call.__name__)
            at = find()
        self.case.assertIsNotNone(at)
        return at

    def ask(self):
        count = self.count()

        def asked_by_moving():
            return self.room.ask(count)

        at = self.found(lambda: self.chosen(count + 2), count + 2, asked_by_moving)
        if at is not None:
            self.case.assertEqual(self.room.ask(count), self.coming)
            self.begins[self.coming], self.held[self.coming] = at, [None] * count
            self.rover = at + count + 2
            self.coming += 1

    def grow(self):
        handle, count = self.handle(), self.count()

        def grown_by_moving():
            return self.room.grow(handle, count)

        at = self.found(lambda: self.goal(handle, count + 2), count + 2, grown_by_moving)
        if at is None:
            return
        self.case.assertEqual(self.room.grow(handle, count), at + 1)
        if at == self.begins[handle]:
            self.note("stayed")
        else:
            self.rover = at + count + 2
        numbers = self.held[handle]
        self.begins[handle], self.held[handle] = at, numbers[:count] + [None] * (count - len(numbers))

    def give(self):
        handle = self.handle()
        self.room.give(handle)
        self.given.append(handle)
        del self.held[handle], self.begins[handle]

    def put(self):
        handle = self.handle()
        for k in range(len(self.held[handle])):
            # Many of them look like marks.
            number = self.draw.choice((self.draw.randint(-9, 30), 2 * self.size, 2 * self.size + 1, SIXTY, -SIXTY))
            self.room.put(handle, k, number)
            self.held[handle][k] = number

    def gather(self):
        free = free_cells(self.pieces())
        need = self.draw.randint(1, free + 2)
        if need > free:
            self.refuse(NoRoom, lambda: self.room.gather(need))
            return
        moved = self.settle(need)
        self.case.assertEqual(self.room.gather(need), moved)
        self.note("gathered" if moved else "gathered already")

    def wrong(self):
        handle = self.draw.choice([-1, -SIXTY, self.coming, self.coming + 3, SIXTY] + self.given)
        for call in (lambda: self.room.give(handle), lambda: self.room.grow(handle, 0), lambda: self.room.place(handle),
                     lambda: self.room.many(handle), lambda: self.room.get(handle, -1),
                     lambda: self.room.put(handle, 0, 1)):
            self.refuse(NoHandle, call)
        self.refuse(NoAsk, lambda: self.room.ask(-self.draw.randint(0, 3)))
        self.refuse(NoAsk, lambda: self.room.gather(-self.draw.randint(0, 3)))
        if self.held:
            handle = self.handle()
            k = self.draw.choice((-1, len(self.held[handle])))
            self.refuse(NoAsk, lambda: self.room.grow(handle, 0))
            self.refuse(NoCell, lambda: self.room.put(handle, k, 1))

    def refuse(self, refusal, call):
        before = self.room.cells(), self.room.handles()
        self.case.assertRaises(refusal, call)
        self.case.assertEqual((self.room.cells(), self.room.handles()), before)

    def deed(self):
        deeds = ["ask"] * 8 + ["gather", "wrong"]
        if self.held:
            deeds += ["give"] * 5 + ["grow"] * 5 + ["put"] * 4
        getattr(self, self.draw.choice(deeds))()

    def check(self):
        cells = self.room.cells()
        pieces = walked(cells)
        self.case.assertEqual(len(cells), self.size)
        self.case.assertEqual(run_together(pieces), pieces)
        self.case.assertEqual(pieces, self.pieces())
        self.case.assertEqual(self.room.pieces(), pieces)
        self.case.assertEqual(self.room.handles(), sorted(self.held))
        for handle, numbers in self.held.items():
            self.case.assertEqual(self.room.place(handle), self.begins[handle] + 1)
            self.case.assertEqual(self.room.many(handle), len(numbers))
            for k, number in enumerate(numbers):
                if number is not None:
                    self.case.assertEqual(self.room.get(handle, k), number)


class Promise4(unittest.TestCase):
    def test_drawn_deeds(self):
        for word in WORDS:
            came = {}
            for size, deeds in ROWS:
                for seed in (41, 42, 43):
                    with self.subTest(word=word, size=size, seed=seed):
                        account = Account(self, word, size, seed)
                        account.check()
                        for turn in range(deeds):
                            account.deed()
                            account.check()
                        came.update(account.came)
            # The rows tell something only where all of these came up.
            self.assertEqual(sorted(came), ["asked_by_moving", "gathered", "gathered already", "grown_by_moving",
                                            "refused", "stayed"])

    def test_all_can_be_given_back(self):
        for word in WORDS:
            account = Account(self, word, 64, 51)
            for turn in range(200):
                account.deed()
            while account.held:
                account.give()
                account.check()
            self.assertEqual(account.room.pieces(), [(0, 64, False)])
            self.assertEqual(account.room.ask(62), account.coming)


if __name__ == "__main__":
    unittest.main()
