import unittest

from exitdeeds.charts import Chart
from exitdeeds.errors import DeedError, Unbounded
from exitdeeds.exits import state
from exitdeeds.lying import lying
from exitdeeds.nesting import Nested, bounded, nested
from exitdeeds.plans import plan
from exitdeeds.running import run
from exitdeeds.words import agenda, states_below
from exitdeeds.worlds import World
from tests.making import ChartCase, Maker, act, body_of, lines, sample_book
from tests.texts import LOOP

UNDO, WORK, GAIN = act("error", "undo"), act("done", "work"), act("done", "gain")
ERRORS = act("error", "work")

# Bodies whose agendas have no bound.
GROWING = (
    LOOP,
    lines("while a", "  put work on done", "end"),
    lines("while a", "  put work on always", "end", "leave x"),
    lines("while a", "  put undo on error", "end", "raise x"),
    # Dead at one leaving, live at another one.
    lines("while a", "  put undo on error", "end", "if b", "  raise x", "end"),
    lines("while a", "  put undo on error", "end", "do work"),
    # Below a done action, or one that heals, all is live.
    lines("while a", "  put undo on error", "end", "put work on done"),
    lines("while a", "  put work on done", "end", "put cure on error", "raise x"),
    lines("while a", "  put work on done", "  put undo on error", "end"),
    # Live in front of one of two ways on.
    lines("while a", "  put undo on error", "  if b", "    put work on done", "  end", "end"),
    # The loop goes through two more loops.
    lines("while a", "  while b", "    do work", "    while c", "      put undo on error", "    end", "  end", "end"),
    lines("if c", "  do work", "end", "while a", "  while b", "  end", "  put work on done", "end"),
    # Behind other questions, and only for one value of the cell at the end.
    lines("do work", "if b", "  while a", "    put work(late n) on done", "  end", "  set n 1", "end", "return n"),
)
BOUNDED = (
    "", "put work on done", lines("while a", "end"), lines("put work on always", "while a", "end"),
    # Dead at each leaving.
    lines("while a", "  put undo on error", "end"),
    lines("while a", "  put work on done", "end", "raise x"),
    lines("while a", "  put work on done", "end", "put undo on error", "put turn on error", "raise x"),
    lines("while a", "  put undo on error", "end", "put cure on error", "leave x"),
    lines("while a", "  put undo on error", "end", "put gain on error", "put cure on error", "return 3"),
    # A loop that no way goes round.
    lines("while a", "  put work on done", "  leave x", "end"),
    lines("while a", "  if b", "    put work on done", "    return 1", "  end", "end"),
    lines("while a", "  when n is 0", "    put work on done", "  end", "  set n 1", "end"),
)


def body_with_cell(text):
    return body_of(text, ("n", 2))


def out(level, left, *store):
    return (level, ("out", left, store))


def by_the_words(body):
    """The rows and the levels of the nested chart, made as point 48 says it, without the functions of the package."""
    chart, book = plan(body), body.book
    opened = {}
    for leaving in chart.leavings():
        for row, entry in enumerate(chart.rows):
            if entry == (("out", *leaving),):
                opened[(row, leaving)] = {state(leaving[0])}
    size = -1
    while size < sum(map(len, opened.values())):
        size = sum(map(len, opened.values()))
        for (target, leaving), states in list(opened.items()):
            for row, entry in enumerate(chart.rows):
                for following, puts in entry[1:]:
                    if following == target:
                        below = states_below(puts, tuple(sorted(states)), book)
                        opened[(row, leaving)] = opened.get((row, leaving), set()) | set(below)

    def kept(puts, target):
        found = []
        for at, half in enumerate(puts):
            above = [states_below(puts[at + 1:], tuple(sorted(states)), book)
                     for (row, _), states in opened.items() if row == target]
            if any(half[0] in states for states in above):
                found.append(half)
        return found

    levels = [(-1, None)]

    def raised(level, halves):
        for half in halves:
            if (level, half) not in levels:
                levels.append((level, half))
            level = levels.index((level, half))
        return level

    places = [(0, raised(0, kept(chart.start, 0)))]
    rows = []
    for row, level in places:
        numbers = []
        for target, puts in chart.rows[row][1:]:
            place = (target, raised(level, kept(puts, target)))
            if place not in places:
                places.append(place)
            numbers.append(places.index(place))
        rows.append((level, chart.rows[row][0], *numbers))
    return tuple(rows), tuple(levels)


class BoundedTest(unittest.TestCase):
    def test_growing(self):
        for text in GROWING:
            self.assertIs(bounded(body_with_cell(text)), False, text)

    def test_bounded(self):
        for text in BOUNDED:
            self.assertIs(bounded(body=body_with_cell(text)), True, text)

    def test_against_the_sets_of_agendas(self):
        counts = {True: 0, False: 0}
        for seed in range(400):
            body = Maker(seed).body()
            finite = all(lying(body, leaving).finite for leaving in plan(body).leavings())
            self.assertIs(bounded(body), finite, seed)
            counts[finite] += 1
        self.assertGreater(min(counts.values()), 20)


class UnboundedTest(unittest.TestCase):
    def check(self, body):
        with self.assertRaises(Unbounded) as caught:
            nested(body)
        error = caught.exception
        self.assertIsInstance(error, DeedError)
        for world in (error.head, error.loop, error.tail):
            self.assertIsInstance(world, World)
        self.assertGreater(len(error.loop), 0)
        for many in range(6):
            world = error.head + World(error.loop.answers * many) + error.tail
            rows = run(body, world)
            left = [at for at, row in enumerate(rows) if row[0] == "out"]
            # All answers are used before the body leaves.
            self.assertEqual(left, [len(world)])
            self.assertEqual(rows[left[0]][1:], error.leaving)
            lengths = [len(word) for word in self.agendas(body, error.leaving, world)]
            self.assertEqual(len(lengths), 1)
            self.assertGreaterEqual(lengths[0], many)

    def agendas(self, body, leaving, world):
        """The agenda of the stack to which the answers lead."""
        chart = plan(body)
        row, stack = 0, chart.start
        for answer in world:
            row, puts = chart.rows[row][1 + answer]
            stack = stack + puts
        return [agenda(stack, leaving, body.book)] if len(chart.rows[row]) == 1 else []

    def test_three_worlds(self):
        for text in GROWING:
            self.check(body_with_cell(text))

    def test_random_bodies(self):
        many = 0
        for seed in range(400):
            body = Maker(seed).body()
            if not bounded(body):
                self.check(body)
                many += 1
        self.assertGreater(many, 20)

    def test_the_only_leaving_that_grows(self):
        body = body_of(lines("while a", "  put undo on error", "end", "if b", "  raise x", "end"))
        with self.assertRaises(Unbounded) as caught:
            nested(body=body)
        self.assertEqual(caught.exception.leaving, (("raise", "x"), ()))
        self.assertEqual((caught.exception.loop.text, caught.exception.tail.text), ("1", "01"))

    def test_a_loop_behind_other_questions(self):
        body = body_of(lines("do work", "if b", "  while a", "    put work on done", "  end", "end", "leave x"))
        with self.assertRaises(Unbounded) as caught:
            nested(body)
        self.assertEqual(caught.exception.head.text[:2], "11")


class NestedCase(ChartCase):
    def check(self, rows, levels, text, *cells):
        body = body_of(text, *cells)
        made = nested(body)
        self.assertEqual(made.rows, tuple(rows))
        self.assertEqual(made.levels, tuple(levels))
        self.assertEqual(made.start, ())
        self.same_runs(made, body, 7)


class RowTest(NestedCase):
    def test_empty_body(self):
        self.check([out(0, ("return", 0))], [(-1, None)], "")
        self.check([out(0, ("return", 0), 0, 0)], [(-1, None)], "", ("n", 3), ("a", 2))

    def test_the_example_of_point_20(self):
        text = lines("put undo on error", "put work on done", "return 3")
        self.check([out(2, ("return", 3))], [(-1, None), (0, UNDO), (1, WORK)], text)

    def test_puts_at_the_start_and_behind_both_answers(self):
        text = lines("put gain on done", "if a", "  put undo on error", "else", "  put work on done", "end", "raise x")
        self.check(
            [(0, ("test", "a"), 1, 2), out(0, ("raise", "x")), out(1, ("raise", "x"))],
            [(-1, None), (0, UNDO)], text,
        )
        text = lines("put gain on done", "if a", "  put undo on error", "  put work on done", "else", "  put work on done", "end")
        self.check(
            [(1, ("test", "a"), 1, 2), out(2, ("return", 0)), out(4, ("return", 0))],
            [(-1, None), (0, GAIN), (1, WORK), (1, UNDO), (3, WORK)], text,
        )

    def test_the_same_halves_are_one_level_and_one_row(self):
        text = lines("if a", "  put work on done", "else", "  put work on done", "end", "do gain")
        self.check(
            [(0, ("test", "a"), 1, 1), (1, ("do", "gain", None), 2, 3),
             out(1, ("raise", "gain")), out(1, ("return", 0))],
            [(-1, None), (0, WORK)], text,
        )

    def test_other_halves_are_two_levels_and_two_rows(self):
        text = lines("if a", "  put work on done", "else", "  put work(1) on done", "end", "if b", "end")
        self.check(
            [(0, ("test", "a"), 1, 2), (1, ("test", "b"), 3, 3), (2, ("test", "b"), 4, 4),
             out(1, ("return", 0)), out(2, ("return", 0))],
            [(-1, None), (0, act("done", "work", 1)), (0, WORK)], text,
        )

    def test_two_ways_that_put_the_same_after_all(self):
        text = lines("if a", "  put work on done", "end", "if b", "else", "  put work on done", "end")
        self.check(
            [(0, ("test", "a"), 1, 2), (0, ("test", "b"), 3, 4), (1, ("test", "b"), 5, 3),
             out(1, ("return", 0)), out(0, ("return", 0)), out(2, ("return", 0))],
            [(-1, None), (0, WORK), (1, WORK)], text,
        )

    def test_levels_in_the_order_in_which_they_are_met(self):
        text = lines("put gain on done", "if a", "  if b", "    put work(11) on done", "  else", "    put work(10) on done",
                     "  end", "else", "  put work(0) on done", "  put undo(0) on done", "end")
        def work(number):
            return act("done", "work", number)
        self.check(
            [(1, ("test", "a"), 1, 2), out(3, ("return", 0)), (1, ("test", "b"), 3, 4),
             out(4, ("return", 0)), out(5, ("return", 0))],
            [(-1, None), (0, GAIN), (1, work(0)), (2, act("done", "undo", 0)), (1, work(10)), (1, work(11))], text,
        )

    def test_a_loop_whose_puts_are_dead(self):
        text = lines("put work on done", "while a", "  put undo on error", "end")
        self.check([(1, ("test", "a"), 1, 0), out(1, ("return", 0))], [(-1, None), (0, WORK)], text)

    def test_a_half_that_is_live_for_one_leaving_alone(self):
        """`undo on error` is dropped at the return, and lies there all the same."""
        text = lines("put undo on error", "do work", "put gain on error")
        self.check(
            [(1, ("do", "work", None), 1, 2), out(1, ("raise", "work")), out(1, ("return", 0))],
            [(-1, None), (0, UNDO)], text,
        )

    def test_halves_of_one_action(self):
        """One half is live, the other is not; both are, below another half."""
        self.check([out(1, ("return", 0))], [(-1, None), (0, WORK)], "put work on always")
        self.check([out(1, ("raise", "x"))], [(-1, None), (0, ERRORS)], lines("put work on always", "raise x"))
        self.check(
            [out(3, ("return", 0))], [(-1, None), (0, WORK), (1, ERRORS), (2, GAIN)],
            lines("put work on always", "put gain on always"),
        )

    def test_a_put_before_a_loop_that_asks_no_further(self):
        text = lines("while a", "  put work on done", "  leave x", "end", "put gain on done")
        self.check(
            [(0, ("test", "a"), 1, 2), out(1, ("return", 0)), out(2, ("leave", "x"))],
            [(-1, None), (0, GAIN), (0, WORK)], text,
        )

    def test_a_loop_behind_two_levels(self):
        text = lines("if b", "  put work on done", "end", "while a", "end")
        self.check(
            [(0, ("test", "b"), 1, 2), (0, ("test", "a"), 3, 1), (1, ("test", "a"), 4, 2),
             out(0, ("return", 0)), out(1, ("return", 0))],
            [(-1, None), (0, WORK)], text,
        )

    def test_further_actions_stay_inside_their_halves(self):
        text = "put work on done [gain on done; undo on error]"
        self.check([out(1, ("return", 0))], [(-1, None), (0, act("done", "work", None, GAIN, UNDO))], text)

    def test_cells_that_are_read_now_and_late(self):
        text = lines("set n 1", "put work(n) on done", "put work(late n) on done", "set n 2", "if a", "  set n 0", "end")
        self.check(
            [(2, ("test", "a"), 1, 2), out(2, ("return", 0), 2), out(2, ("return", 0), 0)],
            [(-1, None), (0, act("done", "work", 1)), (1, act("done", "work", ("late", "n")))], text, ("n", 3),
        )


class MethodTest(unittest.TestCase):
    TEXT = lines("put undo on error", "if a", "  put work on done", "  put gain on done", "end", "raise x")
    OTHER = lines("put undo on error", "if a", "  put gain on done", "  put work on always", "end", "if b", "  raise x", "end")

    def test_kind(self):
        made = nested(body=body_of(self.TEXT))
        self.assertIsInstance(made, Nested)
        self.assertIsInstance(made, Chart)
        self.assertEqual(made.run(book=sample_book(), world=World.read("11"))[-1], ("end", ("raise", "x")))
        for thing in (made.rows, made.levels, made.start, made.rows[0], made.levels[0]):
            self.assertIsInstance(thing, tuple)

    def test_targets_and_leavings(self):
        made = nested(body_of(self.OTHER))
        self.assertEqual([made.targets(row) for row in range(len(made))],
                         [(1, 2), (3, 4), (5, 6), (), (), (), ()])
        self.assertEqual(made.targets(row=0), (1, 2))
        self.assertEqual(made.leavings(), [(("raise", "x"), ()), (("return", 0), ())])
        made.leavings().clear()
        self.assertEqual(len(made.leavings()), 2)
        text = lines("if a", "  return 10", "end", "if a", "  put gain on done", "end", "if a", "  set n 1", "end", "return 9")
        self.assertEqual(nested(body_with_cell(text)).leavings(),
                         [(("return", 9), (0,)), (("return", 9), (1,)), (("return", 10), (0,))])

    def test_what_a_chart_has(self):
        made = nested(body_of(self.OTHER))
        self.assertEqual(len(made), 7)
        self.assertEqual(tuple(made), made.rows)
        beginnings = [made.beginning(row) for row in range(7)]
        self.assertEqual([world.text for world in beginnings], ["", "0", "1", "00", "01", "10", "11"])

    def test_depth_and_describe(self):
        self.assertEqual(nested(body_of("")).depth, 0)
        self.assertEqual(nested(body_of("")).describe(), "1 rows, depth 0")
        made = nested(body_of(self.OTHER))
        self.assertEqual(made.depth, 4)
        self.assertEqual(made.describe(), "7 rows, depth 4")
        # The deepest level is not the last one.
        made = nested(body_of(lines("if a", "  put work on done", "else", "  put gain on done", "  put gain on done", "end")))
        self.assertEqual(made.levels[-1], (0, WORK))
        self.assertEqual(made.depth, 2)

    def test_stack(self):
        made = nested(body_of(self.OTHER))
        self.assertEqual(made.stack(0), [])
        self.assertEqual(made.stack(level=1), [UNDO])
        self.assertEqual(made.stack(4), [UNDO, GAIN, WORK, ERRORS])
        made.stack(4).clear()
        self.assertEqual(len(made.stack(4)), 4)

    def test_a_chart_does_not_depend_on_the_body(self):
        body = body_of(self.TEXT)
        made = nested(body)
        body.book["undo"] = ("heal", 3)
        self.assertEqual(made.run(sample_book(), World.read("01"))[-1], ("end", ("raise", "x")))
        self.assertEqual(made.run(body.book, World.read("01"))[-1], ("end", ("return", 3)))


class RandomTest(ChartCase):
    def bodies(self):
        for seed in range(300):
            body = Maker(seed).body()
            if bounded(body):
                yield seed, body

    def test_against_the_words_of_the_document(self):
        for seed, body in self.bodies():
            made = nested(body)
            self.assertEqual((made.rows, made.levels), by_the_words(body), seed)

    def test_the_run_is_that_of_the_body(self):
        for seed, body in self.bodies():
            made = nested(body)
            self.same_runs(made, body, 5)
            maker = Maker(seed)
            for many in (12, 40):
                world = maker.world(many)
                self.assertEqual(made.run(body.book, world), run(body, world))

    def test_levels_and_rows(self):
        for _, body in self.bodies():
            made = nested(body)
            self.assertEqual(made.levels[0], (-1, None))
            self.assertEqual(len(set(made.levels)), len(made.levels))
            for level, (parent, _) in enumerate(made.levels[1:]):
                self.assertLessEqual(parent, level)
            beginnings = [made.beginning(row) for row in range(len(made))]
            for lower, upper in zip(beginnings, beginnings[1:]):
                self.assertLess(lower, upper)
            stacks = [made.stack(level) for level in range(len(made.levels))]
            self.assertEqual(made.depth, max(map(len, stacks)))
            for row, (level, *_) in enumerate(made):
                for target in made.targets(row):
                    inner = stacks[made.rows[target][0]]
                    self.assertEqual(inner[:len(stacks[level])], stacks[level])

    def test_a_long_run(self):
        body = body_of(lines("put work(late n) on always [undo on error]", "while a", "  if b", "    set n 1", "  end", "end"),
                       ("n", 2))
        for text in ("1" * 3000 + "0" + "0" * 3, "10" * 999 + "0" + "01", "11" * 500):
            world = World.read(text)
            self.assertEqual(nested(body).run(body.book, world), run(body, world))


class ManyLevelsTest(ChartCase):
    def test_a_level_for_each_way(self):
        body = body_of(lines(*["if a\n  put work on done\nelse\n  put gain on done\nend"] * 6))
        made = nested(body)
        self.assertEqual(len(made.levels), 2 ** 7 - 1)
        self.assertEqual(len(made), 2 ** 7 - 1)
        self.assertEqual(made.describe(), "127 rows, depth 6")
        self.same_runs(made, body, 9)


if __name__ == "__main__":
    unittest.main()
