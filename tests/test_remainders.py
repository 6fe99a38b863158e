import unittest

from exitdeeds.charts import Chart
from exitdeeds.errors import AlreadyLeft, DeedError
from exitdeeds.exits import state
from exitdeeds.families import Family, family
from exitdeeds.remainders import parting_world, remainder
from exitdeeds.running import run
from exitdeeds.words import live, states_below
from exitdeeds.worlds import World, worlds
from tests.making import Maker, act, body_of, lines, sample_book
from tests.texts import ALIKE, DIFFERENT, LOOP

UNDO, WORK = act("error", "undo"), act("done", "work")
RAISED, END = (("raise", "work"), ()), (("return", 0), ())


def put_for(puts, leaving):
    return dict(puts).get(leaving, ())


def place_of(chart, world):
    """The row to which the answers lead and all puts on the way, or None if an out row comes before."""
    row, passed = 0, [chart.start]
    for answer in world:
        if len(chart.rows[row]) == 1:
            return None
        row, puts = chart.rows[row][1 + answer]
        passed.append(puts)
    return row, passed


def by_the_words(chart, book, world):
    """The rows and the start of the remainder, made as point 57 says it."""
    first, passed = place_of(chart, world)
    met = [first]
    for row in met:
        met.extend(target for target in dict.fromkeys(chart.targets(row)) if target not in met)
    rows = []
    for row in met:
        ask, *pairs = chart.rows[row]
        rows.append((ask, *[(met.index(target), puts) for target, puts in pairs]))
    start = []
    for leaving in sorted(row[0][1:] for row in rows if len(row) == 1):
        # All states below the words of any way on, found by going back from the out row.
        opened = {at: {state(leaving[0])} for at, row in enumerate(rows) if row[0][1:] == leaving}
        size = 0
        while size < sum(map(len, opened.values())):
            size = sum(map(len, opened.values()))
            for at, row in enumerate(rows):
                for target, puts in row[1:]:
                    above = tuple(sorted(opened.get(target, ())))
                    below = states_below(put_for(puts, leaving), above, book)
                    opened.setdefault(at, set()).update(below)
        word = [half for puts in passed for half in put_for(puts, leaving)]
        kept = live(word, tuple(sorted(opened.get(0, ()))), book)
        if kept:
            start.append((leaving, kept))
    return tuple(rows), tuple(start)


class RemainderCase(unittest.TestCase):
    def of(self, text, answers, *cells):
        body = body_of(text, *cells)
        return remainder(family(body), body.book, World.read(answers))

    def runs_on(self, body, chart, world, longest):
        """The run of the remainder is the rest of the run of the body."""
        made = remainder(chart, body.book, world)
        for more in worlds(longest):
            self.assertEqual(made.run(body.book, more), run(body, world + more)[len(world):], (world.text, more.text))


class ExampleTest(RemainderCase):
    def test_the_example(self):
        made = self.of(LOOP, "11")
        self.assertEqual(made.rows, family(body_of(LOOP)).rows)
        self.assertEqual(made.start, ((RAISED, (UNDO,)),))
        self.assertEqual(self.of(LOOP, "1111").start, ((RAISED, (UNDO, UNDO)),))

    def test_kind(self):
        made = remainder(chart=family(body_of(LOOP)), book=sample_book(), world=World.read("11"))
        self.assertIsInstance(made, Family)
        self.assertIsInstance(made, Chart)
        self.assertEqual(made.describe(), "4 rows, 2 leavings")
        self.assertEqual(made.beginning(3).text, "10")
        self.assertEqual(made.leavings(), [RAISED, (("return", 1), ())])
        self.assertEqual(made.run(book=sample_book(), world=World.read("101"))[-2:],
                         [("way", "undo", None, 1), ("end", ("raise", "work"))])
        for thing in (made.rows, made.start, made.start[0], made.start[0][1], made.rows[0]):
            self.assertIsInstance(thing, tuple)

    def test_after_no_answers(self):
        for seed in range(80):
            body = Maker(seed).body()
            chart = family(body)
            self.assertEqual(remainder(chart, body.book, World(())), chart)


class RowTest(RemainderCase):
    def test_rows_are_numbered_anew(self):
        text = lines("if a", "  do work", "else", "  do undo", "  leave x", "end")
        self.assertEqual(self.of(text, "0").rows, (
            (("do", "undo", None), (1, ()), (2, ())), (("out", ("raise", "undo"), ()),), (("out", ("leave", "x"), ()),),
        ))
        self.assertEqual(self.of(text, "1").rows, (
            (("do", "work", None), (1, ()), (2, ())), (("out", *RAISED),), (("out", *END),),
        ))

    def test_an_out_row(self):
        made = self.of(lines("put work on done", "if a", "  put undo on error", "end"), "1")
        self.assertEqual(made.rows, ((("out", *END),),))
        self.assertEqual(made.start, ((END, (WORK,)),))
        self.assertEqual(made.run(sample_book(), World(())), [("out", *END)])
        self.assertEqual(self.of("do work", "0").run(sample_book(), World(())), [("out", *RAISED), ("end", RAISED[0])])

    def test_leavings_that_cannot_be_made_any_more(self):
        text = lines("put work on done", "put undo on error", "if a", "  do work", "end", "leave x")
        left = (("leave", "x"), ())
        self.assertEqual(family(body_of(text)).start, ((left, (WORK,)), (RAISED, (UNDO,))))
        self.assertEqual(self.of(text, "1").start, ((left, (WORK,)), (RAISED, (UNDO,))))
        self.assertEqual(self.of(text, "0").start, ((left, (WORK,)),))
        self.assertEqual(self.of(text, "10").start, ((RAISED, (UNDO,)),))

    def test_halves_that_are_live_before_some_answers_and_dead_behind_them(self):
        text = lines("put undo on error", "if a", "  put work on done", "end")
        self.assertEqual(family(body_of(text)).start, ((END, (UNDO,)),))
        self.assertEqual(self.of(text, "1").start, ((END, (UNDO, WORK)),))
        self.assertEqual(self.of(text, "0").start, ())
        text = lines("put work on done", "put gain on error", "while a", "  put cure on error", "end", "raise x")
        left = (("raise", "x"), ())
        self.assertEqual(family(body_of(text)).start, ((left, (WORK, act("error", "gain"))),))
        self.assertEqual(self.of(text, "10").start, ((left, (WORK, act("error", "gain"), act("error", "cure"))),))
        self.assertEqual(self.of(text, "0").start, ((left, (act("error", "gain"),)),))


class LeftTest(RemainderCase):
    def refused(self, used, text, answers):
        body = body_of(text)
        with self.assertRaises(AlreadyLeft) as caught:
            remainder(family(body), body.book, World.read(answers))
        self.assertEqual(caught.exception.used, used)
        self.assertIsInstance(caught.exception, DeedError)

    def test_beyond_an_out_row(self):
        self.refused(0, "", "0")
        self.refused(0, "put work on done", "1")
        self.refused(1, LOOP, "01")
        self.refused(1, LOOP, "0111")
        self.refused(2, LOOP, "100")
        self.refused(3, LOOP, "1100")
        self.refused(4, LOOP, "11101")

    def test_exactly_an_out_row(self):
        for answers in ("0", "10", "110", "1110"):
            self.assertEqual(len(self.of(LOOP, answers)), 1)
        self.assertEqual(len(self.of("", "")), 1)

    def test_of_a_remainder(self):
        made = self.of(LOOP, "1")
        with self.assertRaises(AlreadyLeft) as caught:
            remainder(made, sample_book(), World.read("01"))
        self.assertEqual(caught.exception.used, 1)
        with self.assertRaises(AlreadyLeft) as caught:
            remainder(self.of(LOOP, "0"), sample_book(), World.read("1"))
        self.assertEqual(caught.exception.used, 0)

    def test_random_worlds(self):
        for seed in range(80):
            body = Maker(seed).body()
            chart = family(body)
            for world in worlds(4):
                rows = run(body, world)
                asked = len([row for row in rows if row[0] in ("do", "test")])
                if asked == len(world):
                    remainder(chart, body.book, world)
                else:
                    with self.assertRaises(AlreadyLeft) as caught:
                        remainder(chart, body.book, world)
                    self.assertEqual(caught.exception.used, asked)


class RunTest(RemainderCase):
    def places(self, longest, seeds=120):
        for seed in range(seeds):
            body = Maker(seed).body()
            chart = family(body)
            for world in worlds(longest):
                if place_of(chart, world) is not None:
                    yield body, chart, world

    def test_the_rest_of_the_run(self):
        for body, chart, world in self.places(3):
            self.runs_on(body, chart, world, 5)

    def test_texts(self):
        for pair in ALIKE + DIFFERENT:
            for text in pair:
                body = body_of(text)
                for world in worlds(3):
                    if place_of(family(body), world) is not None:
                        self.runs_on(body, family(body), world, 5)

    def test_against_the_words_of_the_document(self):
        for body, chart, world in self.places(3):
            made = remainder(chart, body.book, world)
            self.assertEqual((made.rows, made.start), by_the_words(chart, body.book, world))

    def test_of_a_remainder_against_one_made_at_once(self):
        for body, chart, world in self.places(4):
            for cut in range(len(world) + 1):
                first = remainder(chart, body.book, World(world.answers[:cut]))
                self.assertEqual(remainder(first, body.book, World(world.answers[cut:])), remainder(chart, body.book, world))

    def test_a_long_world(self):
        body = body_of(LOOP)
        made = remainder(family(body), body.book, World.read("11" * 900))
        self.assertEqual(len(made.start[0][1]), 900)
        self.assertEqual(made.run(body.book, World.read("10" + "1" * 900)), run(body, World.read("11" * 900 + "10" + "1" * 900))[1800:])


class PartingTest(RemainderCase):
    def check(self, first, second, book):
        world = parting_world(first, second, book)
        self.assertEqual(world is None, first == second)
        if world is not None:
            self.assertIsInstance(world, World)
            self.assertNotEqual(first.run(book, world), second.run(book, world))
        return world is None

    def test_arguments_by_name(self):
        made = family(body_of(LOOP))
        self.assertIsNone(parting_world(first=made, second=made, book=sample_book()))

    def test_families(self):
        for pairs, equal in ((ALIKE, True), (DIFFERENT, False)):
            for first, second in pairs:
                charts = family(body_of(first)), family(body_of(second))
                self.assertIs(self.check(*charts, sample_book()), equal)
                self.assertIs(self.check(*charts[::-1], sample_book()), equal)

    def test_remainders_of_one_body(self):
        counts = {True: 0, False: 0}
        for seed in range(100):
            body = Maker(seed).body()
            chart = family(body)
            found = [remainder(chart, body.book, world) for world in worlds(3) if place_of(chart, world) is not None]
            for first in found[:8]:
                for second in found[:8]:
                    equal = self.check(first, second, body.book)
                    counts[equal] += 1
                    if equal:
                        for world in worlds(5):
                            self.assertEqual(first.run(body.book, world), second.run(body.book, world))
        self.assertGreater(min(counts.values()), 500)

    def test_remainders_of_two_bodies(self):
        first, second = body_of(lines("if a", "  do work", "  put undo on error", "end", LOOP)), body_of(LOOP)
        book = sample_book()
        one, two = family(first), family(second)
        self.assertFalse(self.check(one, two, book))
        self.assertTrue(self.check(remainder(one, book, World.read("0")), two, book))
        self.assertTrue(self.check(remainder(one, book, World.read("11")), remainder(two, book, World.read("11")), book))
        self.assertFalse(self.check(remainder(one, book, World.read("11")), remainder(two, book, World.read("1111")), book))
        self.assertFalse(self.check(remainder(one, book, World.read("11")), two, book))
        self.assertTrue(self.check(remainder(one, book, World.read("10")), remainder(two, book, World.read("10")), book))
        self.assertFalse(self.check(remainder(one, book, World.read("10")), remainder(two, book, World.read("1110")), book))

    def test_random_families(self):
        books = {}
        for seed in range(400):
            body = Maker(seed).body(2)
            books.setdefault(str(body.book.cells), []).append(body)
        counts = {True: 0, False: 0}
        for bodies in books.values():
            charts = [family(body) for body in bodies[:40]]
            for first in charts:
                for second in charts:
                    counts[self.check(first, second, bodies[0].book)] += 1
        self.assertGreater(min(counts.values()), 100)


class CopyTest(RemainderCase):
    def test_nothing_is_changed(self):
        body = body_of(LOOP)
        chart = family(body)
        remainder(chart, body.book, World.read("11"))
        self.assertEqual(chart, family(body))

    def test_the_book_may_change_later(self):
        body = body_of(LOOP)
        book = sample_book()
        made = remainder(family(body), book, World.read("11"))
        book["undo"] = ("heal", 3)
        self.assertEqual(made, self.of(LOOP, "11"))


if __name__ == "__main__":
    unittest.main()
