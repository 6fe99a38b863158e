"""Bodies, words and worlds for the tests. The random ones are the same in every run."""
import random
import unittest

from exitdeeds.bodies import Body
from exitdeeds.books import Book
from exitdeeds.errors import DeedError
from exitdeeds.reading import read
from exitdeeds.running import run
from exitdeeds.worlds import World, worlds

KINDS = {
    "work": ("plain",), "undo": ("plain",), "gain": ("answer", 8), "away": ("jump", "home"),
    "cure": ("heal", 7), "turn": ("swap", "other"),
}
GUARDS = ("done", "error", "always")
EXITS = (("return", 1), ("leave", "x"), ("raise", "e"))


def act(guard, step, argument=None, *further):
    return (guard, step, argument, further)


def sample_book(*cells):
    return Book.of(*cells, **KINDS)


def body_of(text, *cells):
    """The body of a text over the sample book with these cells."""
    return read(sample_book(*cells), text)


def lines(*rows):
    return "\n".join(rows)


def used(rows):
    """The number of answers that a run has used."""
    return len([row for row in rows if row[0] in ("do", "test", "way")])


class Maker:
    """Makes random bodies and words over a random book.

    With `distinct`, no two actions have the same argument, so the rows of a
    run tell which action is asked.
    """

    def __init__(self, seed, distinct=False):
        self.random = random.Random(seed)
        cells = [("n", self.random.choice([2, 3])), ("a", 2)][:self.random.choice([0, 0, 1, 1, 2])]
        self.book = sample_book(*cells)
        self.distinct = distinct
        self.many = 0

    def argument(self, words):
        self.many += 1
        if self.distinct and "late" in words:
            return self.many % 1000
        plain = [None, None, 1]
        read_ones = [(word, cell) for cell, _ in self.book.cells for word in words]
        return self.random.choice(plain + 2 * read_ones)

    def action(self, depth=0):
        guard = self.random.choice(GUARDS)
        further = ()
        if guard != "error" and depth < 2 and self.random.random() < 0.4:
            further = tuple(self.action(depth + 1) for _ in range(self.random.randint(1, 3)))
        return (guard, self.random.choice(list(KINDS)), self.argument(["now", "late", "late"]), further)

    def word(self, longest=3):
        return [self.action() for _ in range(self.random.randint(0, longest))]

    def store(self):
        return tuple(self.random.randrange(size) for _, size in self.book.cells)

    def leaf(self):
        choice = self.random.random()
        if choice < 0.5:
            return ("put", self.action())
        if choice < 0.75:
            return ("do", self.random.choice(list(KINDS)), None if self.distinct else self.argument(["now"]))
        if choice < 0.9 and self.book.cells:
            cell, size = self.random.choice(self.book.cells)
            return ("set", cell, self.random.randrange(size))
        return self.random.choice([("return", 0), ("return", 1), ("leave", "x"), ("raise", "e")])

    def statement(self, depth, longest):
        choice = self.random.random()
        if choice < 0.65 or depth == 4:
            return self.leaf()
        first, second = self.block(depth + 1, longest - 1), self.block(depth + 1, longest - 1)
        test = self.random.choice(["more", "fast"])
        if choice < 0.77:
            return ("if", test, first, second)
        if choice < 0.9 or not self.book.cells:
            return ("while", test, first)
        cell, size = self.random.choice(self.book.cells)
        return ("when", cell, self.random.randrange(size), first, second)

    def block(self, depth, longest):
        return tuple(self.statement(depth, longest) for _ in range(self.random.randint(0, max(1, longest))))

    def body(self, longest=4):
        while True:
            try:
                return Body(self.book, self.block(0, longest))
            except DeedError:
                self.many = 0

    def world(self, many):
        share = self.random.choice([0.2, 0.5, 0.8, 0.95])
        return World([int(self.random.random() < share) for _ in range(many)])


class ChartCase(unittest.TestCase):
    """Compares charts that are made from texts, and their runs with those of the bodies."""

    def check_chart(self, make, rows, start, text, *cells):
        body = body_of(text, *cells)
        made = make(body)
        self.assertEqual(list(made.rows), rows)
        self.assertEqual(made.start, start)
        self.same_runs(made, body, 6)

    def same_runs(self, made, body, longest):
        for world in worlds(longest):
            self.assertEqual(made.run(body.book, world), run(body, world), world.text)

    def check_random_runs(self, make):
        for seed in range(120):
            maker = Maker(seed)
            body = maker.body()
            made = make(body)
            self.same_runs(made, body, 6)
            for many in (12, 40, 40, 40):
                world = maker.world(many)
                self.assertEqual(made.run(body.book, world), run(body, world))

    def check_a_long_run(self, make):
        body = body_of(lines("while a", "  put work on done [undo on done]", "end"))
        world = World.read("1" * 1500 + "0" + "1" * 3000)
        self.assertEqual(make(body).run(body.book, world), run(body, world))
