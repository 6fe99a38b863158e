import unittest

from exitdeeds.bodies import Body
from exitdeeds.books import Book
from exitdeeds.charts import Chart
from exitdeeds.families import Family, family
from exitdeeds.pairs import alike
from exitdeeds.plans import plan
from exitdeeds.rewriting import early, pruned
from exitdeeds.words import live, states_below
from exitdeeds.worlds import World
from tests.making import ChartCase, Maker, act, body_of, lines, sample_book
from tests.texts import ALIKE, ALIKE_WITH_A_CELL, DIFFERENT, LOOP

UNDO, WORK = act("error", "undo"), act("done", "work")
END = (("return", 0), ())
RAISED = (("raise", "work"), ())


def out(leaving):
    return (("out", *leaving),)


class FamilyCase(ChartCase):
    def check(self, rows, start, text, *cells):
        self.check_chart(family, rows, start, text, *cells)


class ExampleTest(FamilyCase):
    """The example of points 29 and 44."""

    def test_rows(self):
        self.check(
            [
                (("test", "more"), (1, ()), (2, ())),
                out((("return", 1), ())),
                (("do", "work", None), (3, ()), (0, ((RAISED, (UNDO,)),))),
                out(RAISED),
            ],
            (), LOOP,
        )

    def test_describe(self):
        self.assertEqual(family(body_of(LOOP)).describe(), "4 rows, 2 leavings")
        self.assertEqual(family(body_of("")).describe(), "1 rows, 1 leavings")

    def test_kind(self):
        made = family(body=body_of(LOOP))
        self.assertIsInstance(made, Family)
        self.assertIsInstance(made, Chart)
        self.assertEqual(made.run(book=sample_book(), world=World.read("10"))[-1], ("end", ("raise", "work")))
        self.assertEqual(len(made), 4)
        self.assertEqual([thing.__class__ for thing in (made.rows, made.start, *made.rows[2], *made.rows[2][2])],
                         [tuple] * 5 + [int, tuple])


class SplitTest(FamilyCase):
    """The puts belong to leavings."""

    def test_empty_body(self):
        self.check([out(END)], (), "")
        self.check([out((("return", 0), (0, 0)))], (), "", ("n", 3), ("a", 2))

    def test_puts_at_the_start(self):
        self.check([out(END)], ((END, (UNDO, WORK)),), lines("put undo on error", "put work on done", "put undo on error"))
        self.check(
            [(("do", "work", None), (1, ()), (2, ())), out(RAISED), out(END)],
            ((RAISED, (UNDO,)), (END, (act("done", "gain"), UNDO, WORK))),
            lines("put gain on done", "put undo on error", "do work", "put work on done"),
        )

    def test_arguments_are_replaced_for_the_leaving(self):
        one, two = (("return", 0), (0,)), (("return", 0), (1,))
        further = (UNDO, act("done", "gain", ("now", "n")))
        text = lines("put work(late n) on done [undo on error; gain(n) on done]", "if a", "  set n 1", "end")
        def word(value):
            return (act("done", "work", value, UNDO, act("done", "gain", value)),)
        self.assertEqual(plan(body_of(text, ("n", 2))).start, (act("done", "work", ("late", "n"), *further),))
        self.check([(("test", "a"), (1, ()), (2, ())), out(one), out(two)], ((one, word(0)), (two, word(1))),
                   text, ("n", 2))

    def test_two_values(self):
        leaving = (("leave", "x"), (1, 2))
        self.check([out(leaving)], ((leaving, (act("done", "work", 1), act("done", "undo", 2))),),
                   lines("put work(late a) on done", "set a 1", "set n 2", "put undo(n) on always", "leave x"),
                   ("n", 3), ("a", 2))

    def test_normal_forms_are_put(self):
        text = lines("put gain on done [work on done; undo on error; turn on done]")
        self.check([out(END)], ((END, (WORK, act("done", "gain", None, UNDO, act("done", "turn")))),), text)

    def test_leavings_in_ascending_order(self):
        text = lines("put work on done", "if a", "  return 10", "end", "if a", "  return 9", "end", "leave z")
        self.assertEqual([leaving for leaving, _ in family(body_of(text)).start],
                         [(("leave", "z"), ()), (("return", 9), ()), (("return", 10), ())])


class EarlyTest(FamilyCase):
    """The words are put as early as possible."""

    def test_over_one_row(self):
        rows = [(("test", "a"), (1, ()), (1, ())), out(END)]
        start = ((END, (WORK,)),)
        self.check(rows, start, lines("if a", "end", "put work on done"))
        self.check(rows, start, lines("if a", "  put work on done", "else", "  put work on done", "end"))
        self.check(rows, start, lines("put work on done", "if a", "end"))

    def test_over_two_rows(self):
        text = lines("do gain", "if a", "  do gain", "  put work on done", "else", "  put work on done", "end",
                     "put undo on error", "put cure on done")
        self.assertEqual(family(body_of(text)).start, ((END, (WORK, UNDO, act("done", "cure"))),))
        self.same_runs(family(body_of(text)), body_of(text), 8)

    def test_not_certain(self):
        self.check(
            [(("test", "a"), (1, ()), (1, ((END, (WORK,)),))), out(END)], (),
            lines("if a", "  put work on done", "end"),
        )
        self.check(
            [(("test", "a"), (1, ((END, (act("done", "undo"),)),)), (1, ((END, (WORK,)),))), out(END)], (),
            lines("if a", "  put work on done", "else", "  put undo on done", "end"),
        )

    def test_in_part_certain(self):
        self.check(
            [(("test", "a"), (1, ()), (1, ((END, (act("done", "undo"),)),))), out(END)], ((END, (WORK,)),),
            lines("if a", "  put work on done", "  put undo on done", "else", "  put work on done", "end"),
        )

    def test_for_one_leaving_alone(self):
        one, two = (("leave", "x"), ()), (("return", 1), ())
        self.check(
            [(("test", "a"), (1, ()), (2, ())), out(two), out(one)], ((one, (WORK,)),),
            lines("if a", "  put work on done", "  leave x", "end", "return 1"),
        )

    def test_ways_that_do_not_matter_to_a_half(self):
        # Behind `cure` an error can be over, so only that way asks `work`; it is certain all the same.
        left = (("raise", "x"), ())
        self.check(
            [(("test", "a"), (1, ()), (1, ((left, (act("error", "cure"),)),))), out(left)], ((left, (WORK,)),),
            lines("if a", "  put work on done", "  put cure on error", "end", "raise x"),
        )

    def test_always_over_a_choice(self):
        left = (("raise", "x"), ())
        self.check(
            [(("test", "a"), (1, ()), (1, ((left, (act("error", "cure"),)),))), out(left)],
            ((left, (act("done", "gain"), act("error", "gain"))),),
            lines("put gain on always", "if a", "  put cure on error", "end", "raise x"),
        )

    def test_into_a_loop(self):
        # `work` lies below each turn, or not at all.
        self.check(
            [(("test", "a"), (1, ()), (0, ((END, (act("done", "undo"), WORK)),))), out(END)], ((END, (WORK,)),),
            lines("while a", "  put work on done", "  put undo on done", "end", "put work on done"),
        )

    def test_not_out_of_a_loop(self):
        self.check(
            [(("test", "a"), (1, ()), (0, ((END, (WORK,)),))), out(END)], (),
            lines("while a", "  put work on done", "end"),
        )

    def test_all_of_a_loop_is_the_same(self):
        rows = [(("test", "a"), (1, ()), (0, ((END, (WORK,)),))), out(END)]
        self.check(rows, ((END, (WORK,)),), lines("while a", "  put work on done", "end", "put work on done"))
        self.check(rows, ((END, (WORK,)),), lines("put work on done", "while a", "  put work on done", "end"))


class LeastTest(FamilyCase):
    """Rows that go on alike become one row."""

    def test_rows_that_go_on_alike(self):
        rows = [(("test", "a"), (1, ()), (1, ())), (("do", "work", None), (2, ()), (3, ())), out(RAISED), out(END)]
        self.check(rows, (), lines("if a", "  do work", "else", "  do work", "end"))
        self.check(rows, (), lines("if a", "else", "end", "do work"))
        self.check(rows, (), lines("if a", "  do work", "  return 0", "end", "do work"))

    def test_rows_that_go_on_alike_but_for_their_puts(self):
        # The puts are moved to the front, and then the rows behind are the same.
        text = lines("if a", "  do work", "  put cure on done", "else", "  do work", "  put gain on done", "end")
        self.check(
            [
                (("test", "a"), (1, ((END, (act("done", "gain"),)),)), (1, ((END, (act("done", "cure"),)),))),
                (("do", "work", None), (2, ()), (3, ())), out(RAISED), out(END),
            ],
            (), text,
        )

    def test_rows_that_differ_in_the_puts_of_one_answer(self):
        def put(step):
            return ((END, (act("done", step),)),)
        test = ("test", "b")
        self.check(
            [(("test", "a"), (1, ()), (2, ())), (test, (3, put("cure")), (3, ())), (test, (3, put("gain")), (3, ())),
             out(END)],
            (), lines("if a", "  if b", "  else", "    put gain on done", "  end", "else", "  if b", "  else",
                      "    put cure on done", "  end", "end"),
        )
        self.check(
            [(("test", "a"), (1, ()), (2, ())), (test, (3, ()), (3, put("cure"))), (test, (3, ()), (3, put("gain"))),
             out(END)],
            (), lines("if a", "  if b", "    put gain on done", "  end", "else", "  if b", "    put cure on done",
                      "  end", "end"),
        )

    def test_loops(self):
        rows = [(("test", "a"), (1, ()), (0, ((END, (WORK,)),))), out(END)]
        for text in (
            lines("while a", "  put work on done", "end"),
            lines("while a", "  put work on done", "  if a", "    put work on done", "  else", "    return 0", "  end", "end"),
            lines("if a", "  put work on done", "  while a", "    put work on done", "  end", "end"),
        ):
            self.check(rows, (), text)

    def test_stores_that_make_no_difference(self):
        one, two = (("return", 0), (0,)), (("return", 0), (1,))
        self.check(
            [(("test", "a"), (1, ()), (2, ())), (("test", "b"), (3, ()), (3, ())), (("test", "b"), (4, ()), (4, ())),
             out(one), out(two)],
            (), lines("if a", "  set n 1", "end", "if b", "end"), ("n", 2),
        )
        self.check(
            [(("test", "a"), (1, ()), (1, ())), (("test", "b"), (2, ()), (2, ())), out(one)],
            (), lines("if a", "  set n 1", "end", "if b", "end", "set n 0"), ("n", 2),
        )

    def test_no_two_rows_go_on_alike(self):
        for seed in range(100):
            made = family(Maker(seed).body())
            groups = {number: 0 for number in range(len(made))}
            for _ in range(len(made)):
                forms = [
                    (row[0], groups[number], [(groups[target], puts) for target, puts in row[1:]])
                    for number, row in enumerate(made.rows)
                ]
                groups = {number: forms.index(form) for number, form in enumerate(forms)}
            self.assertEqual(len(set(groups.values())), len(made))

    def test_not_more_rows_than_the_plan(self):
        for seed in range(60):
            body = Maker(seed).body()
            self.assertLessEqual(len(family(body)), len(plan(body)))
            self.assertEqual(family(body).leavings(), plan(body).leavings())


class FormTest(FamilyCase):
    def test_puts(self):
        """Pairs in ascending order, with words that are not empty and in normal form."""
        for seed in range(100):
            body = Maker(seed).body()
            made = family(body)
            for puts in [made.start, *[puts for row in made for _, puts in row[1:]]]:
                leavings = [leaving for leaving, _ in puts]
                self.assertEqual(leavings, sorted(set(leavings)))
                for leaving, word in puts:
                    self.assertNotEqual(word, ())
                    self.assertIn(leaving, made.leavings())
                    self.assertEqual(live(word, ("done", "error"), body.book), word)
                    self.assertEqual(states_below(word, (), body.book), ())


class RunTest(FamilyCase):
    def test_the_run_of_a_family_is_the_run_of_its_body(self):
        self.check_random_runs(family)

    def test_a_long_world(self):
        self.check_a_long_run(family)


class EqualTest(FamilyCase):
    def test_alike_bodies(self):
        for texts, *cells in [(pair,) for pair in ALIKE] + [(pair, ("n", 3)) for pair in ALIKE_WITH_A_CELL]:
            first, second = [family(body_of(text, *cells)) for text in texts]
            self.assertTrue(first == second, texts)
            self.assertFalse(first != second)

    def test_bodies_that_are_not_alike(self):
        for texts in DIFFERENT:
            first, second = [family(body_of(text)) for text in texts]
            self.assertFalse(first == second, texts)
            self.assertTrue(first != second)

    def test_rows_and_starts_are_compared(self):
        made = family(body_of(LOOP))
        self.assertTrue(made == Family(made.rows, made.start))
        self.assertFalse(made == Family(made.rows, ((RAISED, (UNDO,)),)))
        self.assertFalse(made == Family(made.rows[:3], made.start))
        for other in (None, 3, made.rows, plan(body_of(LOOP))):
            self.assertFalse(made == other)
            self.assertTrue(made != other)

    def test_steps_in_another_order(self):
        statements = [("put", act("done", "p", ("late", "n"))), ("while", "a", (("put", act("error", "q")),))]
        first = Body(Book.of(("n", 2), p=("plain",), q=("heal", 1)), statements)
        second = Body(Book.of(("n", 2), q=("heal", 1), p=("plain",)), statements)
        self.assertEqual(family(first), family(second))

    def test_small_bodies(self):
        counts = {True: 0, False: 0}
        bodies = []
        for seed in range(400):
            maker = Maker(seed)
            body = maker.body(2)
            if not maker.book.cells:
                bodies.append(body)
            for other in (pruned(body), early(body)):
                self.assertEqual(family(body), family(other))
        for first, second in zip(bodies, bodies[1:]):
            equal = family(first) == family(second)
            self.assertEqual(alike(first, second), equal)
            counts[equal] += 1
        self.assertGreater(min(counts.values()), 2)


if __name__ == "__main__":
    unittest.main()
