import unittest

from exitdeeds.actions import check_action, halves, settled
from exitdeeds.books import Book
from exitdeeds.errors import BadAction, BadNumber, UnknownCell, UnknownStep

PLAIN = ("done", "sign", None, ())
WRONG = ("done", "sign", 1000, ())


def sample_book():
    return Book.of(("n", 3), ("a", 2), sign=("plain",), undo=("heal", 1))


def inside(action, depth):
    """An action of a statement in which the action has this depth, and a wrong one follows it."""
    for _ in range(depth):
        action = ("always", "undo", 5, (PLAIN, action, WRONG))
    return action


def inside_alone(action, depth):
    for _ in range(depth):
        action = ("done", "undo", None, (action,))
    return action


class CheckCase(unittest.TestCase):
    def accepted(self, *actions):
        for action in actions:
            self.assertEqual(check_action(sample_book(), action), action)

    def refused(self, error, value, action):
        with self.assertRaises(error) as caught:
            check_action(sample_book(), action)
        self.assertEqual(list(vars(caught.exception).values()), [value])

    def refused_at_each_depth(self, error, value, action):
        for depth in (0, 1, 2):
            with self.subTest(depth):
                self.refused(error, value, inside(action, depth))


class CheckTest(CheckCase):
    def test_right_actions(self):
        for guard in ("done", "error", "always"):
            for argument in (None, 0, 7, 999, ("now", "n"), ("late", "a")):
                for depth in (0, 1, 2):
                    self.accepted(inside_alone((guard, "undo", argument, ()), depth))

    def test_the_action_itself_is_returned(self):
        action = inside_alone(PLAIN, 2)
        self.assertIs(check_action(book=sample_book(), action=action), action)

    def test_guard(self):
        for guard in ("", "Done", "leave", "raise", "return", "plain", "done "):
            action = (guard, "sign", None, ())
            self.refused_at_each_depth(BadAction, action, action)

    def test_step(self):
        for step in ("none", "n", "", "Sign"):
            self.refused_at_each_depth(UnknownStep, step, ("done", step, None, ()))

    def test_number(self):
        for number in (-1, 1000, 10 ** 30, -(10 ** 30)):
            self.refused_at_each_depth(BadNumber, number, ("done", "sign", number, ()))

    def test_word_of_the_argument(self):
        for word in ("", "Now", "soon", "n"):
            for cell in ("n", "none"):
                action = ("error", "sign", (word, cell), ())
                self.refused_at_each_depth(BadAction, action, action)

    def test_cell(self):
        for word in ("now", "late"):
            for cell in ("none", "sign", "", "N"):
                self.refused_at_each_depth(UnknownCell, cell, ("done", "sign", (word, cell), ()))

    def test_further_actions_of_the_guard_error(self):
        for further in ((PLAIN,), (PLAIN, PLAIN, PLAIN), (WRONG,)):
            action = ("error", "sign", None, further)
            self.refused_at_each_depth(BadAction, action, action)

    def test_number_of_further_actions(self):
        for guard in ("done", "always"):
            for many in (0, 1, 2, 3):
                action = (guard, "sign", None, (PLAIN,) * many)
                self.accepted(action, inside_alone(action, 1))
            for many in (4, 5, 20):
                for part in (PLAIN, WRONG):
                    action = (guard, "sign", None, (part,) * many)
                    self.refused_at_each_depth(BadAction, action, action)

    def test_depth(self):
        self.accepted(inside_alone(PLAIN, 1), inside_alone(PLAIN, 2))
        deep = ("done", "undo", None, (PLAIN,))
        self.refused(BadAction, deep, inside_alone(deep, 2))
        for part in (PLAIN, WRONG):
            for guard in ("done", "always", "error"):
                deep = (guard, "undo", None, (part,))
                self.refused(BadAction, deep, inside(deep, 2))
        deepest = ("done", "undo", None, (("done", "undo", None, (PLAIN,)),))
        self.refused(BadAction, deepest, inside_alone(deepest, 2))


class OrderTest(CheckCase):
    def test_guard_before_all_else(self):
        action = ("never", "none", -1, (PLAIN,) * 4)
        self.refused_at_each_depth(BadAction, action, action)

    def test_step_before_the_argument(self):
        for guard in ("done", "error", "always"):
            for argument in (-1, ("soon", "n"), ("now", "none")):
                self.refused_at_each_depth(UnknownStep, "none", (guard, "none", argument, (PLAIN,) * 4))

    def test_argument_before_the_further_actions(self):
        for guard in ("done", "error", "always"):
            for further in ((WRONG,), (PLAIN,) * 4):
                self.refused_at_each_depth(BadNumber, 1001, (guard, "sign", 1001, further))
                self.refused_at_each_depth(UnknownCell, "none", (guard, "sign", ("now", "none"), further))
                action = (guard, "sign", ("soon", "none"), further)
                self.refused_at_each_depth(BadAction, action, action)

    def test_an_action_before_its_further_actions(self):
        action = ("done", "none", None, (("never", "sign", None, ()),))
        self.refused(UnknownStep, "none", action)
        self.refused(UnknownStep, "none", inside(action, 1))

    def test_further_actions_in_their_order(self):
        cell = ("done", "sign", ("late", "none"), ())
        step = ("done", "none", None, ())
        self.refused(UnknownCell, "none", ("done", "sign", None, (PLAIN, cell, step)))
        self.refused(UnknownStep, "none", ("done", "sign", None, (PLAIN, step, cell)))

    def test_each_further_action_whole_before_the_next(self):
        inner = ("done", "sign", None, (("done", "sign", 1001, ()),))
        step = ("done", "none", None, ())
        self.refused(BadNumber, 1001, ("done", "sign", None, (inner, step)))
        self.refused(UnknownStep, "none", ("done", "sign", None, (step, inner)))


class HalvesTest(unittest.TestCase):
    def test_other_guards(self):
        for action in (PLAIN, ("done", "sign", 3, (PLAIN, WRONG)), ("error", "undo", ("late", "n"), ())):
            self.assertEqual(halves(action), (action,))

    def test_always(self):
        further = (PLAIN, ("always", "undo", None, ()))
        for argument in (None, 0, 7, ("now", "n"), ("late", "a")):
            self.assertEqual(
                halves(("always", "sign", argument, further)),
                (("done", "sign", argument, further), ("error", "sign", argument, ())),
            )
        self.assertEqual(halves(action=("always", "sign", 1, ())), (("done", "sign", 1, ()), ("error", "sign", 1, ())))


class SettledTest(unittest.TestCase):
    def settled(self, argument, guard="done", further=()):
        return settled((guard, "sign", argument, further), sample_book(), (1, 2))

    def test_arguments_that_stay(self):
        for argument in (None, 0, 7, ("late", "a"), ("late", "n")):
            self.assertEqual(self.settled(argument), (("done", "sign", argument, ()),))
            self.assertEqual(self.settled(argument, "error"), (("error", "sign", argument, ()),))

    def test_now(self):
        self.assertEqual(self.settled(("now", "a")), (("done", "sign", 1, ()),))
        self.assertEqual(self.settled(("now", "n")), (("done", "sign", 2, ()),))
        self.assertEqual(self.settled(("now", "n"), "error"), (("error", "sign", 2, ()),))

    def test_each_store(self):
        for first in (0, 1):
            for second in (0, 1, 2):
                for cell, value in (("a", first), ("n", second)):
                    put = settled(("done", "sign", ("now", cell), ()), sample_book(), (first, second))
                    self.assertEqual(put, (("done", "sign", value, ()),))

    def test_both_halves(self):
        further = (("always", "undo", ("now", "n"), ()),)
        for argument, shown in ((("now", "n"), 2), (("late", "n"), ("late", "n")), (None, None), (5, 5)):
            self.assertEqual(
                self.settled(argument, "always", further),
                (("done", "sign", shown, further), ("error", "sign", shown, ())),
            )

    def test_further_actions_stay(self):
        inner = ("done", "undo", ("now", "a"), (("always", "sign", ("now", "n"), ()),))
        further = (inner, ("error", "undo", ("late", "a"), ()), ("always", "undo", ("now", "n"), ()))
        for argument, shown in ((("now", "a"), 1), (None, None)):
            self.assertEqual(self.settled(argument, "done", further), (("done", "sign", shown, further),))

    def test_without_cells(self):
        book = Book.of(sign=("plain",))
        self.assertEqual(settled(action=PLAIN, book=book, store=()), (PLAIN,))

    def test_the_book_stays(self):
        book = sample_book()
        settled(("always", "sign", ("now", "n"), ()), book, (1, 2))
        check_action(book, ("always", "sign", ("now", "n"), ()))
        self.assertEqual(book, sample_book())


if __name__ == "__main__":
    unittest.main()
