import unittest

from exitdeeds.bodies import Body
from exitdeeds.books import Book
from exitdeeds.errors import DeedError, OtherBook, Parted
from exitdeeds.exits import state
from exitdeeds.pairs import alike, leads, parting
from exitdeeds.plans import plan
from exitdeeds.running import run
from exitdeeds.words import agenda, live, states_below, with_values
from exitdeeds.worlds import World, worlds
from tests.making import Maker, act, body_of, lines, sample_book
from tests.texts import ALIKE, ALIKE_WITH_A_CELL, DIFFERENT, LOOP

RAISED = (("raise", "work"), ())
UNDO, WORK = act("error", "undo"), act("done", "work")


def both_ways(first, second, *cells):
    return ((body_of(first, *cells), body_of(second, *cells)), (body_of(second, *cells), body_of(first, *cells)))


def choice(first, second):
    """A choice between two texts."""
    return lines("if q", *["  " + line for line in first.split("\n") if first], "else",
                 *["  " + line for line in second.split("\n") if second], "end")


def place_of(chart, world):
    """The row to which the answers lead, and the stack put so far; None if they lead beyond an out row."""
    row, stack = 0, chart.start
    for answer in world:
        if len(chart.rows[row]) == 1:
            return None
        row, puts = chart.rows[row][1 + answer]
        stack = stack + puts
    return row, stack


def sure(chart, place, leaving, book):
    """The sure stack at the place for the leaving, or None if it cannot be made from there in a few answers."""
    opened = set()
    waiting = [(place[0], (), 0)]
    while waiting:
        row, stack, many = waiting.pop()
        if chart.rows[row][0] == ("out", *leaving):
            opened.update(states_below(stack, (state(leaving[0]),), book))
        elif len(chart.rows[row]) == 3 and many < 9:
            waiting.extend((target, stack + puts, many + 1) for target, puts in chart.rows[row][1:])
    if not opened:
        return None
    return live(with_values(place[1], book, leaving[1]), tuple(sorted(opened)), book)


class AlikeTest(unittest.TestCase):
    def test_alike(self):
        for texts, *cells in [(pair,) for pair in ALIKE] + [(pair, ("n", 3)) for pair in ALIKE_WITH_A_CELL]:
            for first, second in both_ways(*texts, *cells):
                self.assertIs(alike(first, second), True, texts)
                self.assertIsNone(parting(first, second))
                for world in worlds(8):
                    self.assertEqual(run(first, world), run(second, world))

    def test_different(self):
        for texts in DIFFERENT:
            for first, second in both_ways(*texts):
                self.assertIs(alike(first, second), False, texts)
                world = parting(first, second)
                self.assertIsInstance(world, World)
                self.assertNotEqual(run(first, world), run(second, world))

    def test_arguments_by_name(self):
        body, other = body_of("do work"), body_of("do undo")
        self.assertIs(alike(first=body, second=other), False)
        self.assertEqual(len(parting(first=body, second=other)), 1)
        self.assertEqual(leads(first=body, second=body), leads(body, body))

    def test_a_body_with_itself(self):
        for seed in range(60):
            body = Maker(seed).body()
            self.assertTrue(alike(body, body))

    def test_cells_that_make_a_difference(self):
        for first, second in (
            ("set n 1", ""), ("return n", lines("set n 1", "return n")),
            (lines("put work(late n) on done", "set n 2"), lines("put work(n) on done", "set n 2")),
            (lines("put work(n) on done", "if a", "  set n 1", "end"),
             lines("put work(late n) on done", "if a", "  set n 1", "end")),
        ):
            for left, right in both_ways(first, second, ("n", 3)):
                world = parting(left, right)
                self.assertNotEqual(run(left, world), run(right, world))

    def test_pairs_of_small_bodies(self):
        """Random bodies over one small book, many of which are alike."""
        many_worlds = list(worlds(7))
        by_runs = {}
        for seed in range(1500):
            maker = Maker(seed)
            if not maker.book.cells:
                body = maker.body(2)
                by_runs.setdefault(str([run(body, world) for world in many_worlds[:7]]), []).append(body)
        counts = {True: 0, False: 0}
        for bodies in by_runs.values():
            for first, second in zip(bodies[:12], bodies[1:12]):
                world = parting(first, second)
                counts[world is None] += 1
                for other in many_worlds if world is None else [world]:
                    self.assertEqual(run(first, other) == run(second, other), world is None)
        self.assertGreater(counts[True], 100)
        self.assertGreater(counts[False], 10)

    def test_one_run_that_differs(self):
        """Only one world of three answers parts these two bodies."""
        text = lines("if a", "  if b", "    if c", "      put work on done", "    end", "  end", "end")
        first, second = body_of(text), body_of(text.replace("work", "undo"))
        for world in worlds(3):
            self.assertEqual(run(first, world) == run(second, world), True)
        self.assertEqual(parting(first, second).text[:3], "111")

    def test_a_difference_beside_what_is_alike(self):
        """Two choices: one has texts that are alike, the other has texts that are not."""
        many = 0
        for alike_ones in ALIKE:
            for different in DIFFERENT:
                for turned in (False, True):
                    texts = [choice(*(pair[::-1] if turned else pair)) for pair in zip(alike_ones, different)]
                    try:
                        first, second = body_of(texts[0]), body_of(texts[1])
                    except DeedError:
                        # Too many statements, or too deep ones.
                        continue
                    for one, two in ((first, second), (second, first)):
                        world = parting(one, two)
                        self.assertIsNotNone(world, texts)
                        self.assertNotEqual(run(one, world), run(two, world))
                        many += 1
        self.assertGreater(many, 1000)

    def test_what_differs_only_behind_an_answer_on_the_way_out(self):
        first = body_of(lines("put undo on error", "put turn on error", "put cure on error", "raise x"))
        second = body_of(lines("put undo on error", "put turn on error", "put cure on always", "raise x"))
        world = parting(first, second)
        self.assertNotEqual(run(first, world), run(second, world))
        self.assertEqual(world.text[0], "1")
        for text in ("0", "00", "01"):
            self.assertEqual(run(first, World.read(text)), run(second, World.read(text)))


class BookTest(unittest.TestCase):
    def test_other_books(self):
        body = body_of("do work")
        larger, other_kind = sample_book(), sample_book()
        larger["more"] = ("plain",)
        other_kind["undo"] = ("heal", 1)
        for book in (larger, other_kind, sample_book(("n", 2))):
            for statements in (body.statements, (("leave", "x"),)):
                other = Body(book, statements)
                for call in (alike, parting, leads):
                    for pair in ((body, other), (other, body)):
                        with self.assertRaises(OtherBook) as caught:
                            call(*pair)
                        self.assertIsInstance(caught.exception, DeedError)

    def test_steps_in_another_order(self):
        first = Body(Book.of(("n", 2), ("a", 3), p=("plain",), q=("heal", 1)), [("put", act("done", "q", ("late", "n")))])
        second = Body(Book.of(("a", 3), ("n", 2), q=("heal", 1), p=("plain",)), first.statements)
        self.assertTrue(alike(first, second))
        self.assertEqual(leads(first, second), leads(first, first))


class LeadsTest(unittest.TestCase):
    def check(self, found, first, second, *cells):
        left, right = body_of(first, *cells), body_of(second, *cells)
        self.assertEqual(leads(left, right), found)
        turned = {"left": "right", "right": "left", "even": "even"}
        back = sorted((two, one, leaving, turned[side], word) for one, two, leaving, side, word in found)
        self.assertEqual(leads(right, left), back)

    def test_the_empty_body(self):
        self.check([(0, 0, (("return", 0), ()), "even", ())], "", lines("put undo on error"))

    def test_a_body_with_itself(self):
        body = body_of(LOOP)
        end = (("return", 1), ())
        self.assertEqual(leads(body, body), [
            (0, 0, RAISED, "even", ()), (0, 0, end, "even", ()), (1, 1, end, "even", ()),
            (2, 2, RAISED, "even", ()), (2, 2, end, "even", ()), (3, 3, RAISED, "even", ()),
        ])

    def test_a_longer_sure_stack(self):
        first = lines("put work on done", "if a", "end", "put undo on done")
        second = lines("if a", "end", "put work on done", "put undo on done")
        end = (("return", 0), ())
        self.check([(0, 0, end, "left", (WORK,)), (1, 1, end, "even", ())], first, second)

    def test_for_each_leaving(self):
        first = lines("put work on done", "if a", "  return 1", "end", "leave x")
        second = lines("if a", "  put work on done", "  return 1", "end", "put work on done", "leave x")
        one, two = (("leave", "x"), ()), (("return", 1), ())
        self.check(
            [(0, 0, one, "left", (WORK,)), (0, 0, two, "left", (WORK,)), (1, 1, one, "even", ()), (2, 2, two, "even", ())],
            first, second,
        )

    def test_on_each_side(self):
        one, two = (("leave", "x"), ()), (("return", 1), ())
        first = lines("put undo on done", "if a", "  return 1", "end", "put work on done", "if b", "end", "leave x")
        second = lines("if a", "  put undo on done", "  return 1", "end", "put undo on done", "if b", "end",
                       "put work on done", "leave x")
        undo = act("done", "undo")
        self.check(
            [
                (0, 0, one, "left", (undo,)), (0, 0, two, "left", (undo,)), (1, 1, one, "left", (WORK,)),
                (2, 2, two, "even", ()), (3, 3, one, "even", ()),
            ],
            first, second,
        )

    def test_a_turned_loop(self):
        first = lines("put work on done", "while a", "  put undo on done", "  put work on done", "end")
        second = lines("while a", "  put work on done", "  put undo on done", "end", "put work on done")
        end = (("return", 0), ())
        self.check([(0, 0, end, "left", (WORK,)), (1, 1, end, "even", ())], first, second)

    def test_an_unrolled_loop(self):
        unrolled = lines("if more", "  do work", "  put undo on error", *LOOP.split("\n")[:-1], "end", "return 1")
        end = (("return", 1), ())
        found = leads(body_of(LOOP), body_of(unrolled))
        self.assertEqual(found, sorted(found))
        self.assertEqual({entry[3:] for entry in found}, {("even", ())})
        self.assertEqual(len(leads(body_of(unrolled), body_of(LOOP))), len(found))
        self.assertEqual([entry[:3] for entry in found], [
            (0, 0, RAISED), (0, 0, end), (0, 4, RAISED), (0, 4, end), (1, 1, end), (2, 2, RAISED), (2, 2, end),
            (2, 5, RAISED), (2, 5, end), (3, 3, RAISED),
        ])

    def test_arguments_are_replaced_for_the_leaving(self):
        first = lines("put work(late n) on done [undo on error; work(n) on done]", "if a", "  set n 1", "end")
        second = lines("if a", "  set n 1", "end", "put work(n) on done [undo on error; work(n) on done]")
        def word(value):
            return (act("done", "work", value, UNDO, act("done", "work", value)),)
        self.check(
            [
                (0, 0, (("return", 0), (0,)), "left", word(0)), (0, 0, (("return", 0), (1,)), "left", word(1)),
                (1, 1, (("return", 0), (0,)), "even", ()), (2, 2, (("return", 0), (1,)), "even", ()),
            ],
            first, second, ("n", 2),
        )

    def test_not_alike(self):
        for first, second in DIFFERENT:
            left, right = body_of(first), body_of(second)
            with self.assertRaises(Parted) as caught:
                leads(left, right)
            world = caught.exception.world
            self.assertNotEqual(run(left, world), run(right, world))

    def test_alike_bodies(self):
        for first, second in ALIKE:
            found = leads(body_of(first), body_of(second))
            self.assertIsInstance(found, list)
            self.assertEqual(found, sorted(found))
            places = [entry[:3] for entry in found]
            self.assertEqual(len(places), len(set(places)))
            for left, right, leaving, side, word in found:
                self.assertIn(side, ("left", "right", "even"))
                self.assertEqual(side == "even", word == ())
                self.assertEqual(agenda(word, leaving, sample_book()).__class__, tuple)
            pairs = self.pairs_met(body_of(first), body_of(second))
            self.assertEqual({entry[:2] for entry in found}, pairs)

    def test_against_the_definition_of_sure_stacks(self):
        for texts, *cells in [(pair,) for pair in ALIKE] + [(pair, ("n", 3)) for pair in ALIKE_WITH_A_CELL]:
            first, second = body_of(texts[0], *cells), body_of(texts[1], *cells)
            found = {entry[:3]: entry[3:] for entry in leads(first, second)}
            charts = (plan(first), plan(second))
            for world in worlds(4):
                places = [place_of(chart, world) for chart in charts]
                for leaving in charts[0].leavings() if None not in places else []:
                    stacks = [sure(chart, place, leaving, first.book) for chart, place in zip(charts, places)]
                    key = (places[0][0], places[1][0], leaving)
                    self.assertEqual(key in found, stacks[0] is not None)
                    self.assertEqual(key in found, stacks[1] is not None)
                    if key in found:
                        side, word = found[key]
                        self.assertEqual(stacks[0] + (word if side == "right" else ()),
                                         stacks[1] + (word if side == "left" else ()))

    def pairs_met(self, first, second):
        """The pairs of rows of the two plans to which one world leads both bodies."""
        left, right = plan(first), plan(second)
        met, waiting = {(0, 0)}, [(0, 0)]
        while waiting:
            one, two = waiting.pop()
            for pair in zip(left.targets(one), right.targets(two)):
                if pair not in met:
                    met.add(pair)
                    waiting.append(pair)
        return met


if __name__ == "__main__":
    unittest.main()
