import unittest
from itertools import product

from exitdeeds.bodies import Body
from exitdeeds.books import Book
from exitdeeds.running import run
from exitdeeds.worlds import World

WORK = ("do", "work", None)


def put(guard, step, argument=None, *further):
    return ("put", (guard, step, argument, further))


def act(guard, step, argument=None, *further):
    return (guard, step, argument, further)


def sample_book():
    return Book.of(
        ("n", 3), ("a", 2), work=("plain",), undo=("plain",), gain=("answer", 8),
        away=("jump", "home"), cure=("heal", 7), turn=("swap", "other"),
    )


class RunCase(unittest.TestCase):
    def rows(self, text, *statements):
        return run(Body(sample_book(), statements), World.read(text))

    def check(self, rows, text, *statements):
        self.assertEqual(self.rows(text, *statements), rows)

    def check_way(self, rows, text, *statements):
        """The rows behind the "out" row are these."""
        found = self.rows(text, *statements)
        words = [row[0] for row in found]
        self.assertEqual(found[words.index("out") + 1:], rows)


def returned(number, store=(0, 0)):
    return [("out", ("return", number), store), ("end", ("return", number))]


class StatementTest(RunCase):
    def test_empty_body(self):
        for text in ("", "0", "11"):
            self.check(returned(0), text)

    def test_a_list_that_is_new(self):
        body, world = Body(sample_book(), []), World(())
        found = run(body=body, world=world)
        self.assertIsInstance(found, list)
        found.clear()
        self.assertEqual(run(body, world), returned(0))

    def test_do(self):
        self.check([], "", WORK)
        self.check([("do", "work", None, 1), *returned(0)], "1", WORK)
        raised = ("raise", "work")
        self.check([("do", "work", None, 0), ("out", raised, (0, 0)), ("end", raised)], "0", WORK)
        self.check([("do", "work", 0, 1), ("do", "undo", 999, 1)], "11", ("do", "work", 0), ("do", "undo", 999), WORK)

    def test_do_with_the_value_of_a_cell(self):
        statements = (("do", "work", ("now", "n")), ("set", "n", 2), ("do", "work", ("now", "n")),
                      ("do", "undo", ("now", "a")))
        rows = [("do", "work", 0, 1), ("do", "work", 2, 1), ("do", "undo", 0, 1)]
        for many in range(3):
            self.check(rows[:many], "111"[:many], *statements)
        self.check([*rows, *returned(0, (0, 2))], "111", *statements)

    def test_step_kinds_mean_nothing_in_the_body(self):
        for step in ("gain", "away", "cure", "turn"):
            self.check([("do", step, None, 1), *returned(5)], "1", ("do", step, None), ("return", 5))
            left = ("raise", step)
            self.check([("do", step, None, 0), ("out", left, (0, 0)), ("end", left)], "0", ("do", step, None))

    def test_set_and_the_order_of_the_cells(self):
        self.check(returned(0, (0, 2)), "", ("set", "n", 2))
        self.check(returned(0, (1, 0)), "", ("set", "a", 1))
        self.check(returned(0, (1, 1)), "", ("set", "n", 2), ("set", "a", 1), ("set", "n", 1))
        self.check(returned(0, (0, 0)), "", ("set", "n", 2), ("set", "n", 0))

    def test_if(self):
        statements = (("if", "more", (("set", "n", 1), WORK), (("set", "n", 2),)), ("set", "a", 1))
        self.check([], "", *statements)
        self.check([("test", "more", 0), *returned(0, (1, 2))], "0", *statements)
        self.check([("test", "more", 1)], "1", *statements)
        self.check([("test", "more", 1), ("do", "work", None, 1), *returned(0, (1, 1))], "11", *statements)

    def test_if_with_empty_blocks(self):
        for answer in (0, 1):
            rows = [("test", "more", answer), *returned(3)]
            self.check(rows, str(answer), ("if", "more", (), ()), ("return", 3))
        self.check([("test", "more", 1), *returned(3)], "1", ("if", "more", (), (WORK,)), ("return", 3))
        self.check([("test", "more", 0)], "0", ("if", "more", (), (WORK,)), ("return", 3))
        self.check([("test", "more", 0), *returned(3)], "0", ("if", "more", (WORK,), ()), ("return", 3))

    def test_while_is_asked_again(self):
        statements = (("while", "more", (WORK,)), ("return", 4))
        ask, again = ("test", "more", 1), ("do", "work", None, 1)
        rows = [ask, again, ask, again, ask, again]
        for many in range(7):
            self.check(rows[:many], "111111"[:many], *statements)
        for turns in range(4):
            end = [("test", "more", 0), *returned(4)]
            self.check(rows[:2 * turns] + end, "11" * turns + "0", *statements)
        left = ("raise", "work")
        self.check([*rows[:3], ("do", "work", None, 0), ("out", left, (0, 0)), ("end", left)], "1110", *statements)

    def test_while_with_an_empty_block(self):
        rows = [("test", "more", 1)] * 5
        self.check(rows, "11111", ("while", "more", ()))
        self.check([*rows, ("test", "more", 0), *returned(0)], "111110", ("while", "more", ()))

    def test_while_in_while(self):
        statements = (("while", "b", (("while", "c", (("set", "n", 1),)), ("set", "n", 2))), ("set", "a", 1))
        rows = [("test", "b", 1), ("test", "c", 1), ("test", "c", 0), ("test", "b", 0)]
        self.check([*rows, *returned(0, (1, 2))], "1100", *statements)
        self.check([("test", "b", 1), ("test", "c", 0), ("test", "b", 1), ("test", "c", 1)], "1011", *statements)

    def test_when_with_both_outcomes(self):
        def statements(cell, value):
            return (("when", cell, value, (("return", 1),), (("set", "a", 0), ("return", 2))), WORK)
        start = (("set", "n", 2), ("set", "a", 1))
        self.check(returned(1, (1, 2)), "", *start, *statements("n", 2))
        self.check(returned(2, (0, 2)), "", *start, *statements("n", 1))
        self.check(returned(1, (1, 2)), "", *start, *statements("a", 1))
        self.check(returned(2, (0, 2)), "", *start, *statements("a", 0))
        self.check(returned(1), "", *statements("n", 0))

    def test_when_with_empty_blocks(self):
        for value in (0, 1):
            self.check(returned(6), "", ("when", "n", value, (), ()), ("return", 6))
        self.check(returned(6), "", ("when", "n", 0, (), (WORK,)), ("return", 6))
        self.check(returned(6), "", ("when", "n", 1, (WORK,), ()), ("return", 6))

    def test_when_at_the_end_of_a_while(self):
        step = ("when", "n", 0, (("set", "n", 1),), (("when", "n", 1, (("set", "n", 2),), (("leave", "x"),)),))
        statements = (("while", "more", (step,)),)
        ask = ("test", "more", 1)
        self.check([ask] * 2, "11", *statements)
        self.check([ask] * 3 + [("out", ("leave", "x"), (0, 2)), ("end", ("leave", "x"))], "1111", *statements)
        self.check([ask, ("test", "more", 0), *returned(0, (0, 1))], "10", *statements)


class LeavingTest(RunCase):
    def test_each_way_to_leave(self):
        for statement, left in (
            (("return", 0), ("return", 0)), (("return", 999), ("return", 999)),
            (("return", ("now", "n")), ("return", 2)), (("return", ("now", "a")), ("return", 1)),
            (("leave", "work"), ("leave", "work")), (("raise", "none"), ("raise", "none")),
        ):
            rows = [("out", left, (1, 2)), ("end", left)]
            start = (("set", "n", 2), ("set", "a", 1))
            for text in ("", "0", "1", "0101"):
                self.check(rows, text, *start, statement)
                self.check(rows, text, *start, statement, WORK, ("set", "n", 0), ("return", 5))
                inner = ("when", "n", 2, (statement, WORK), (WORK,))
                self.check(rows, text, *start, inner, ("set", "n", 0), WORK)

    def test_puts_behind_a_leaving_never_run(self):
        self.check(returned(1), "111", ("return", 1), put("always", "work"))
        left = ("raise", "work")
        rows = [("do", "work", None, 0), ("out", left, (0, 0)), ("end", left)]
        self.check(rows, "011", WORK, put("always", "undo"), ("set", "n", 1))

    def test_leaving_out_of_a_while(self):
        statements = (("while", "more", (put("done", "work"), ("leave", "x"), WORK)), WORK)
        left = ("leave", "x")
        rows = [("test", "more", 1), ("out", left, (0, 0)), ("way", "work", None, 1), ("end", left)]
        self.check(rows, "11", *statements)

    def test_leaving_has_its_row_without_an_answer(self):
        statements = (WORK, put("always", "undo"), ("return", 1))
        self.check([("do", "work", None, 1), ("out", ("return", 1), (0, 0))], "1", *statements)
        left = ("raise", "work")
        self.check([("out", left, (0, 0))], "", put("error", "undo"), left)
        self.check([("do", "work", None, 0), ("out", left, (0, 0))], "0", put("error", "undo"), WORK)

    def test_left_over_answers(self):
        rows = [("do", "work", None, 1), *returned(0)]
        for rest in ("", "0", "1", "0110"):
            self.check(rows, "1" + rest, WORK)


class WayTest(RunCase):
    def test_each_kind_and_guard_and_answer(self):
        exits = {"done": (("return", 3), ("leave", "x")), "error": (("raise", "work"), ("raise", "x"))}
        changes = {
            ("gain", "done"): ("return", 8), ("away", "done"): ("leave", "home"), ("away", "error"): ("leave", "home"),
            ("cure", "error"): ("return", 7), ("turn", "error"): ("raise", "other"),
        }
        steps = ("work", "gain", "away", "cure", "turn")
        for step, guard, state, answer in product(steps, exits, exits, (0, 1)):
            for left in exits[state]:
                rows = [("end", left)]
                if guard == state:
                    shown = changes.get((step, guard), left) if answer else ("raise", step)
                    rows = [("way", step, None, answer), ("end", shown)]
                self.check_way(rows, f"{answer}1", put(guard, step), left)

    def test_last_one_first(self):
        statements = (put("done", "work", 1), put("done", "work", 2), put("done", "work", 3))
        rows = [("way", "work", 3, 1), ("way", "work", 2, 1), ("way", "work", 1, 1)]
        for many in range(3):
            self.check_way(rows[:many], "111"[:many], *statements)
        self.check_way([*rows, ("end", ("return", 0))], "111", *statements)

    def test_nothing_is_asked_for_what_is_dropped(self):
        statements = (put("error", "work", 1), put("done", "work", 2), put("error", "work", 3))
        self.check_way([("way", "work", 2, 1), ("end", ("return", 0))], "1", *statements)
        self.check_way(
            [("way", "work", 2, 0), ("way", "work", 1, 1), ("end", ("raise", "work"))], "01", *statements,
        )
        self.check_way([("end", ("return", 0))], "", put("error", "work"), put("error", "undo"))

    def test_healed_and_failed_again(self):
        statements = (put("error", "turn"), put("done", "undo"), put("error", "cure"), ("raise", "x"))
        rows = [("way", "cure", None, 1), ("way", "undo", None, 0), ("way", "turn", None, 1)]
        self.check_way([*rows, ("end", ("raise", "other"))], "101", *statements)
        rows = [("way", "cure", None, 1), ("way", "undo", None, 1), ("end", ("return", 7))]
        self.check_way(rows, "11", *statements)
        rows = [("way", "cure", None, 0), ("way", "turn", None, 0), ("end", ("raise", "turn"))]
        self.check_way(rows, "00", *statements)

    def test_always_is_split(self):
        statements = (put("always", "cure", 5, act("done", "work", 6)), ("raise", "x"))
        # The upper half heals; then the lower half is asked, and puts its further action.
        rows = [("way", "cure", 5, 1), ("way", "cure", 5, 1), ("way", "work", 6, 1), ("end", ("return", 7))]
        for many in range(3):
            self.check_way(rows[:many], "111"[:many], *statements)
        self.check_way(rows, "111", *statements)
        # The upper half has no further actions.
        rows = [("way", "cure", 5, 1), ("way", "cure", 5, 0), ("end", ("raise", "cure"))]
        self.check_way(rows, "10", *statements)

    def test_further_actions(self):
        action = put("done", "work", 1, act("done", "undo", 2), act("always", "undo", 3), act("error", "undo", 4))
        rows = [("way", "work", 1, 1), ("way", "undo", 3, 1), ("way", "undo", 2, 1), ("end", ("return", 0))]
        self.check_way(rows, "111", action)
        rows = [("way", "work", 1, 1), ("way", "undo", 3, 0), ("end", ("raise", "undo"))]
        self.check_way(rows, "10", action)
        self.check_way([("way", "work", 1, 0), ("end", ("raise", "work"))], "01", action)

    def test_further_actions_lie_above_what_was_put_before(self):
        statements = (put("done", "work", 1), put("done", "work", 2, act("done", "undo", 3)))
        rows = [("way", "work", 2, 1), ("way", "undo", 3, 1), ("way", "work", 1, 1), ("end", ("return", 0))]
        self.check_way(rows, "111", *statements)

    def test_further_actions_of_always_on_an_error(self):
        action = put("done", "turn", 1, act("always", "undo", 2, act("done", "work", 3)))
        rows = [("way", "turn", 1, 1), ("way", "undo", 2, 1), ("way", "work", 3, 1), ("end", ("return", 0))]
        self.check_way(rows, "111", action)
        action = put("done", "work", 1, act("always", "undo", 2, act("done", "work", 3)), act("done", "turn", 4))
        rows = [("way", "work", 1, 1), ("way", "turn", 4, 0), ("way", "undo", 2, 1), ("end", ("raise", "turn"))]
        self.check_way(rows, "101", action)

    def test_further_actions_down_to_depth_2(self):
        inner = act("always", "undo", 2, act("done", "work", 3), act("always", "work", 4))
        action = put("always", "work", 1, inner, act("error", "undo", 5))
        rows = [("way", "work", 1, 1), ("way", "undo", 2, 1), ("way", "work", 4, 1), ("way", "work", 3, 1)]
        for many in range(4):
            self.check_way(rows[:many], "1111"[:many], action)
        self.check_way([*rows, ("end", ("return", 0))], "1111", action)

    def test_the_upper_half_of_always_has_no_further_actions(self):
        rows = [("way", "away", None, 1), ("way", "away", None, 1), ("way", "undo", None, 1)]
        statements = (put("always", "away", None, act("done", "undo")), ("raise", "x"))
        self.check_way([*rows, ("end", ("leave", "home"))], "111", *statements)

    def test_left_over_answers_on_the_way_out(self):
        for rest in ("", "0", "1101"):
            self.check_way([("way", "work", None, 1), ("end", ("return", 0))], "1" + rest, put("done", "work"))


class CellsOnTheWayTest(RunCase):
    def test_now_is_read_when_it_is_put_and_late_at_the_leaving(self):
        statements = (
            ("set", "n", 1), put("done", "work", ("now", "n")), put("done", "undo", ("late", "n")), ("set", "n", 2),
        )
        rows = [("way", "undo", 2, 1), ("way", "work", 1, 1), ("end", ("return", 0))]
        self.check_way(rows, "11", *statements)

    def test_both_halves_of_now(self):
        statements = (("set", "n", 1), put("always", "cure", ("now", "n")), ("set", "n", 2))
        self.check_way([("way", "cure", 1, 1), ("end", ("return", 0))], "1", *statements)
        rows = [("way", "cure", 1, 1), ("way", "cure", 1, 1), ("end", ("return", 7))]
        self.check_way(rows, "11", *statements, ("raise", "x"))

    def test_further_actions_read_the_store_of_the_leaving(self):
        deep = act("done", "undo", ("now", "a"), act("always", "work", ("late", "n")))
        low, high = act("done", "undo", ("late", "a")), act("done", "undo", ("now", "n"))
        action = put("done", "work", ("now", "n"), low, high, deep)
        statements = (("set", "n", 1), action, ("set", "n", 2), ("set", "a", 1))
        rows = [("way", "work", 1, 1), ("way", "undo", 1, 1), ("way", "work", 2, 1), ("way", "undo", 2, 1),
                ("way", "undo", 1, 1), ("end", ("return", 0))]
        self.check_way(rows, "11111", *statements)

    def test_in_a_while(self):
        statements = (("while", "more", (put("done", "work", ("now", "n")), ("set", "n", 2))),)
        rows = [("way", "work", 2, 1), ("way", "work", 2, 1), ("way", "work", 0, 1), ("end", ("return", 0))]
        self.check_way(rows, "1110111", *statements)


class ExampleTest(unittest.TestCase):
    """The example of point 20."""

    def setUp(self):
        book = Book.of(sign=("plain",), undo=("plain",))
        self.body = Body(book, [put("error", "undo"), put("done", "sign"), ("return", 3)])

    def test_the_run_of_01(self):
        self.assertEqual(run(self.body, World.read("01")), [
            ("out", ("return", 3), ()), ("way", "sign", None, 0), ("way", "undo", None, 1), ("end", ("raise", "sign")),
        ])

    def test_the_run_of_0(self):
        self.assertEqual(run(self.body, World.read("0")), [("out", ("return", 3), ()), ("way", "sign", None, 0)])

    def test_the_run_of_1(self):
        self.assertEqual(run(self.body, World.read("1")), [
            ("out", ("return", 3), ()), ("way", "sign", None, 1), ("end", ("return", 3)),
        ])

    def test_the_run_of_no_answer(self):
        self.assertEqual(run(self.body, World.read("")), [("out", ("return", 3), ())])


class LongRunTest(RunCase):
    def test_many_actions(self):
        statements = (("while", "more", (put("done", "work", 1, act("done", "undo", 2)),)),)
        turns = 3000
        found = self.rows("1" * turns + "0" + "1" * (2 * turns), *statements)
        self.assertEqual(len(found), 3 * turns + 3)
        self.assertEqual(found[turns + 1], ("out", ("return", 0), (0, 0)))
        self.assertEqual(found[turns + 2:-1], [("way", "work", 1, 1), ("way", "undo", 2, 1)] * turns)
        self.assertEqual(found[-1], ("end", ("return", 0)))


if __name__ == "__main__":
    unittest.main()
