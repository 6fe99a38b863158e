import unittest

from exitdeeds.charts import Chart
from exitdeeds.plans import Plan, plan
from exitdeeds.worlds import World
from tests.making import ChartCase, act, body_of, lines, sample_book
from tests.texts import LOOP

UNDO = act("error", "undo")


def out(left, *store):
    return (("out", left, store),)


class PlanCase(ChartCase):
    def check(self, rows, start, text, *cells):
        self.check_chart(plan, rows, start, text, *cells)


class ExampleTest(PlanCase):
    """The example of point 29."""

    def test_rows(self):
        self.check(
            [
                (("test", "more"), (1, ()), (2, ())),
                out(("return", 1)),
                (("do", "work", None), (3, ()), (0, (UNDO,))),
                out(("raise", "work")),
            ],
            (), LOOP,
        )

    def test_describe(self):
        self.assertEqual(plan(body_of(LOOP)).describe(), "4 rows, 1 puts")

    def test_kind(self):
        made = plan(body=body_of(LOOP))
        self.assertIsInstance(made, Plan)
        self.assertIsInstance(made, Chart)
        self.assertEqual(made.run(book=sample_book(), world=World.read("10")), [
            ("test", "more", 1), ("do", "work", None, 0), ("out", ("raise", "work"), ()), ("end", ("raise", "work")),
        ])


class RowTest(PlanCase):
    def test_empty_body(self):
        self.check([out(("return", 0))], (), "")
        self.check([out(("return", 0), 0, 0)], (), "", ("n", 3), ("a", 2))
        self.assertEqual(plan(body_of("")).describe(), "1 rows, 0 puts")

    def test_puts_at_the_start_and_on_both_answers(self):
        text = lines("put undo on error", "put work on always", "if more", "  put gain on done", "else",
                     "  put cure on error", "  put turn on error", "end", "put away on done")
        self.check(
            [
                (("test", "more"), (1, (act("error", "cure"), act("error", "turn"), act("done", "away"))),
                 (1, (act("done", "gain"), act("done", "away")))),
                out(("return", 0)),
            ],
            (UNDO, act("done", "work"), act("error", "work")), text,
        )
        self.assertEqual(plan(body_of(text)).describe(), "2 rows, 8 puts")

    def test_cells_that_are_read_now_are_replaced(self):
        further = (act("done", "undo", ("now", "n")),)
        text = lines("set n 2", "put work(n) on always [undo(n) on done]", "put work(late n) on done", "do undo(n)",
                     "put undo(n) on error", "set n 1", "put undo(n) on error")
        self.check(
            [
                (("do", "undo", 2), (1, ()), (2, (act("error", "undo", 2), act("error", "undo", 1)))),
                out(("raise", "undo"), 2),
                out(("return", 0), 1),
            ],
            (("done", "work", 2, further), act("error", "work", 2), act("done", "work", ("late", "n"))),
            text, ("n", 3),
        )

    def test_a_failing_do_puts_nothing(self):
        self.check(
            [
                (("do", "work", 5), (1, ()), (2, (UNDO,))),
                out(("raise", "work")),
                out(("leave", "x")),
            ],
            (act("done", "gain"),), lines("put gain on done", "do work(5)", "put undo on error", "leave x"),
        )

    def test_one_row_for_each_statement_and_store(self):
        text = lines("if a", "  set n 1", "end", "do work", "when n is 1", "  return n", "end")
        self.check(
            [
                (("test", "a"), (1, ()), (2, ())),
                (("do", "work", None), (3, ()), (4, ())),
                (("do", "work", None), (5, ()), (6, ())),
                out(("raise", "work"), 0),
                out(("return", 0), 0),
                out(("raise", "work"), 1),
                out(("return", 1), 1),
            ],
            (), text, ("n", 2),
        )

    def test_one_out_row_for_each_leaving(self):
        text = lines("if a", "  return 0", "end", "if b", "  raise work", "end", "do work")
        self.check(
            [
                (("test", "a"), (1, ()), (2, ())),
                (("test", "b"), (3, ()), (4, ())),
                out(("return", 0)),
                (("do", "work", None), (4, ()), (2, ())),
                out(("raise", "work")),
            ],
            (), text,
        )

    def test_statements_that_ask_alike_have_rows_of_their_own(self):
        made = plan(body_of(lines("do work", "do work")))
        self.assertEqual([row[0] for row in made], [
            ("do", "work", None), ("out", ("raise", "work"), ()), ("do", "work", None), ("out", ("return", 0), ()),
        ])

    def test_behind_a_statement_that_leaves(self):
        rows = [out(("return", 1))]
        self.check(rows, (), lines("return 1", "put undo on error", "do work"))
        self.check(rows, (UNDO,), lines("put undo on error", "return 1", "put undo on error", "while a", "end"))
        text = lines("if a", "  leave x", "  put undo on error", "  do work", "end")
        self.check([(("test", "a"), (1, ()), (2, ())), out(("return", 0)), out(("leave", "x"))], (), text)

    def test_a_while_in_a_while(self):
        text = lines("while a", "  put work on done", "  while b", "    put undo on done", "  end", "end")
        work, undo = act("done", "work"), act("done", "undo")
        self.check(
            [
                (("test", "a"), (1, ()), (2, (work,))),
                out(("return", 0)),
                (("test", "b"), (0, ()), (2, (undo,))),
            ],
            (), text,
        )

    def test_a_cell_of_3_values_in_a_loop(self):
        text = lines("while a", "  when n is 0", "    set n 1", "  else", "    when n is 1", "      set n 2", "    else",
                     "      put work(n) on done", "    end", "  end", "end")
        self.check(
            [
                (("test", "a"), (1, ()), (2, ())),
                out(("return", 0), 0),
                (("test", "a"), (3, ()), (4, ())),
                out(("return", 0), 1),
                (("test", "a"), (5, ()), (4, (act("done", "work", 2),))),
                out(("return", 0), 2),
            ],
            (), text, ("n", 3),
        )

    def test_rows_and_start_are_tuples(self):
        made = plan(body_of(lines("put work on done", "while a", "  put undo on error", "end")))
        self.assertEqual([thing.__class__ for thing in (made.rows, made.start, *made.rows[0])], [tuple] * 5)


class RunTest(PlanCase):
    def test_the_run_of_a_plan_is_the_run_of_its_body(self):
        self.check_random_runs(plan)

    def test_a_long_world(self):
        self.check_a_long_run(plan)

    def test_a_plan_does_not_depend_on_the_body(self):
        body = body_of(LOOP)
        made = plan(body)
        body.book["undo"] = ("heal", 3)
        found = made.run(body.book, World.read("11101"))
        self.assertEqual(found[-1], ("end", ("return", 3)))
        self.assertEqual(made.run(sample_book(), World.read("11101"))[-1], ("end", ("raise", "work")))


if __name__ == "__main__":
    unittest.main()
