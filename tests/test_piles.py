import unittest
from itertools import product

from exitdeeds.bodies import Body
from exitdeeds.books import Book
from exitdeeds.errors import (
    BadAction, BadNumber, NoAnswer, OtherBook, TooLarge, UnknownCell, UnknownStep,
)
from exitdeeds.piles import Pile
from exitdeeds.running import run
from exitdeeds.worlds import World, worlds

HUGE = 10 ** 5000
RETURN = ("return", 3)
RAISE = ("raise", "x")


def act(guard, step, argument=None, *further):
    return (guard, step, argument, further)


WORK = act("done", "work")
UNDO = act("error", "undo")
BOTH = act("always", "work", 4)


def sample_book():
    return Book.of(
        ("n", 3), ("a", 2), work=("plain",), undo=("plain",), gain=("answer", 8),
        away=("jump", "home"), cure=("heal", 7), turn=("swap", "other"),
    )


def pile_of(*actions, store=(0, 0)):
    pile = Pile(sample_book())
    pile.put(*actions, store=store)
    return pile


class PileCase(unittest.TestCase):
    def refused(self, error, value, pile, deed, *others):
        """The deed raises the error with this attribute, and no pile changes."""
        piles = (pile, *others)
        before = [(list(each), len(each), each.limit) for each in piles]
        with self.assertRaises(error) as caught:
            deed(pile)
        self.assertEqual(list(vars(caught.exception).values()), [value])
        self.assertEqual([(list(each), len(each), each.limit) for each in piles], before)

    def put_refused(self, error, value, pile, *actions):
        self.refused(error, value, pile, lambda pile: pile.put(*actions, store=(1, 2)))

    def adding_refused(self, error, value, pile, action):
        def deed(pile):
            pile += action
        self.refused(error, value, pile, deed)


class PutTest(PileCase):
    def test_new_pile(self):
        pile = Pile(book=sample_book())
        self.assertEqual((len(pile), list(pile), pile.limit), (0, [], 100))

    def test_several_actions(self):
        pile = pile_of(WORK, BOTH, UNDO)
        halves = [WORK, act("done", "work", 4), act("error", "work", 4), UNDO]
        self.assertEqual(list(pile), halves)
        self.assertEqual(len(pile), 4)
        self.assertIsNone(pile.put(UNDO, WORK, store=(1, 1)))
        self.assertEqual(list(pile), [*halves, UNDO, WORK])

    def test_none(self):
        pile = pile_of(WORK)
        self.assertIsNone(pile.put(store=(0, 0)))
        self.assertEqual(list(pile), [WORK])
        pile.limit = 1
        pile.put(store=(0, 0))
        self.assertEqual(list(pile), [WORK])

    def test_arguments(self):
        further = (act("done", "undo", ("now", "n")), act("always", "undo", ("late", "a")))
        pile = pile_of(
            act("done", "work", ("now", "n"), *further), act("always", "work", ("now", "a"), *further),
            act("always", "work", ("late", "n")), store=(1, 2),
        )
        self.assertEqual(list(pile), [
            act("done", "work", 2, *further), act("done", "work", 1, *further), act("error", "work", 1),
            act("done", "work", ("late", "n")), act("error", "work", ("late", "n")),
        ])

    def test_wrong_actions(self):
        for error, value, action in (
            (BadAction, act("never", "work"), act("never", "work")),
            (UnknownStep, "missing", act("done", "missing")),
            (BadNumber, 1000, act("done", "work", 1000)),
            (BadNumber, -1, act("done", "work", -1)),
            (UnknownCell, "missing", act("done", "work", ("now", "missing"))),
            (BadAction, act("done", "work", ("soon", "n")), act("done", "work", ("soon", "n"))),
            (BadAction, act("error", "work", None, WORK), act("error", "work", None, WORK)),
            (BadAction, act("done", "undo", 1, WORK),
             act("done", "work", None, act("done", "work", None, act("done", "undo", 1, WORK)))),
            (UnknownCell, "missing", act("done", "work", None, act("done", "work", ("late", "missing")))),
        ):
            for pile in (Pile(sample_book()), pile_of(BOTH, UNDO)):
                self.put_refused(error, value, pile, action)
                self.put_refused(error, value, pile, WORK, action, UNDO)
                self.put_refused(error, value, pile, WORK, UNDO, action)
                self.put_refused(error, value, pile, action, act("done", "other"), WORK)
                self.adding_refused(error, value, pile, action)

    def test_first_wrong_action(self):
        pile = pile_of(WORK)
        self.put_refused(BadNumber, 1000, pile, WORK, act("done", "work", 1000), act("done", "missing"))
        self.put_refused(UnknownStep, "missing", pile, act("done", "missing"), act("done", "work", 1000))

    def test_depth_0(self):
        inner = act("done", "work", 1, act("always", "work", 2, act("error", "undo", 3)))
        self.assertEqual(list(pile_of(inner)), [inner])

    def test_book_is_a_copy(self):
        book = sample_book()
        pile = Pile(book)
        book["new"] = ("plain",)
        book["work"] = ("jump", "away")
        self.put_refused(UnknownStep, "new", pile, act("done", "new"))
        pile += WORK
        self.assertEqual(pile.unwind(RETURN, (0, 0), World((1,)))[1], RETURN)
        self.assertIn("new", book)


class AddTest(PileCase):
    def test_one_action(self):
        pile = same = Pile(sample_book())
        pile += WORK
        pile += BOTH
        self.assertIs(pile, same)
        self.assertEqual(list(pile), [WORK, act("done", "work", 4), act("error", "work", 4)])

    def test_late_and_further_arguments_stay(self):
        further = (act("done", "undo", ("now", "n")), act("done", "undo", ("late", "a")))
        pile = Pile(sample_book())
        pile += act("always", "work", ("late", "n"), *further)
        self.assertEqual(list(pile), [
            act("done", "work", ("late", "n"), *further), act("error", "work", ("late", "n")),
        ])

    def test_argument_that_is_read_now(self):
        for guard in ("done", "error", "always"):
            action = act(guard, "work", ("now", "n"))
            for pile in (Pile(sample_book()), pile_of(BOTH)):
                self.adding_refused(BadAction, action, pile, action)

    def test_order_of_the_errors(self):
        pile = pile_of(WORK)
        pile.limit = 1
        now = act("done", "work", ("now", "n"))
        self.adding_refused(BadAction, now, pile, now)
        self.adding_refused(UnknownStep, "missing", pile, act("done", "work", ("now", "n"), act("done", "missing")))
        self.adding_refused(UnknownCell, "missing", pile, act("done", "work", ("now", "missing")))
        self.adding_refused(UnknownStep, "missing", pile, act("done", "missing"))
        self.adding_refused(TooLarge, 1, pile, WORK)


class LimitTest(PileCase):
    def test_reached_and_exceeded_by_put(self):
        pile = pile_of(*[WORK] * 99)
        self.put_refused(TooLarge, 100, pile, WORK, WORK)
        pile.put(WORK, store=(0, 0))
        self.assertEqual(len(pile), 100)
        self.put_refused(TooLarge, 100, pile, UNDO)
        pile = Pile(sample_book())
        self.put_refused(TooLarge, 100, pile, *[WORK] * 101)
        self.put_refused(TooLarge, 100, pile, *[BOTH] * 51)
        pile.put(*[BOTH] * 50, store=(0, 0))
        self.assertEqual(len(pile), 100)

    def test_reached_and_exceeded_by_adding(self):
        pile = pile_of(*[WORK] * 98)
        pile += WORK
        self.adding_refused(TooLarge, 100, pile, BOTH)
        pile += UNDO
        self.assertEqual(len(pile), 100)
        self.adding_refused(TooLarge, 100, pile, WORK)

    def test_halves_of_always(self):
        pile = pile_of(WORK)
        pile.limit = 2
        self.put_refused(TooLarge, 2, pile, BOTH)
        self.adding_refused(TooLarge, 2, pile, BOTH)
        pile.limit = 3
        pile += BOTH
        self.assertEqual(len(pile), 3)

    def test_further_actions_are_no_halves_of_the_pile(self):
        pile = Pile(sample_book())
        pile.limit = 1
        pile += act("done", "work", None, BOTH, BOTH)
        self.assertEqual(len(pile), 1)

    def test_checks_of_all_actions_come_first(self):
        pile = pile_of(WORK)
        pile.limit = 1
        self.put_refused(UnknownStep, "missing", pile, WORK, act("done", "missing"))
        self.put_refused(TooLarge, 1, pile, WORK)

    def set_limit(self, pile, value, way):
        if way == "assigned":
            pile.limit = value
        else:
            self.assertIsNone(pile.change_limit(value))

    def test_right_limits(self):
        for way in ("assigned", "changed"):
            for actions in ((), (WORK,), (WORK, BOTH)):
                pile = pile_of(*actions)
                for value in (len(pile), 999, len(pile) + 1, 500, 100, 999, len(pile)):
                    self.set_limit(pile, value, way)
                    self.assertEqual(pile.limit, value)
            pile = pile_of(WORK)
            self.set_limit(pile, 101, way)
            pile.put(*[WORK] * 100, store=(0, 0))
            self.put_refused(TooLarge, 101, pile, WORK)

    def test_wrong_limits(self):
        for way in ("assigned", "changed"):
            for actions in ((), (WORK,), (WORK, BOTH)):
                pile = pile_of(*actions)
                for value in (len(pile) - 1, -1, -5, 1000, 1001, HUGE, -HUGE):
                    self.refused(BadNumber, value, pile, lambda pile: self.set_limit(pile, value, way))
                pile.limit = 50
                for value in (len(pile) - 1, 1000):
                    self.refused(BadNumber, value, pile, lambda pile: self.set_limit(pile, value, way))

    def test_empty_pile_with_the_limit_0(self):
        pile = Pile(sample_book())
        pile.limit = 0
        self.assertEqual(pile.limit, 0)
        self.put_refused(TooLarge, 0, pile, WORK)
        self.adding_refused(TooLarge, 0, pile, WORK)
        pile.change_limit(value=1)
        pile += WORK
        self.refused(BadNumber, 0, pile, lambda pile: pile.change_limit(0))


class UnwindTest(PileCase):
    def unwound(self, pile, pending, text, store=(0, 0)):
        rows, shown, rest = pile.unwind(pending, store, World.read(text))
        self.assertIsInstance(rows, list)
        self.assertIsInstance(rest, World)
        self.assertEqual((len(pile), list(pile)), (0, []))
        return rows, shown, rest.text

    def test_to_its_end(self):
        rows = [("way", "work", None, 0), ("way", "undo", None, 1)]
        self.assertEqual(self.unwound(pile_of(UNDO, WORK), RETURN, "01"), (rows, ("raise", "work"), ""))
        self.assertEqual(self.unwound(pile_of(UNDO, WORK), RETURN, "1"), ([("way", "work", None, 1)], RETURN, ""))
        self.assertEqual(self.unwound(pile_of(UNDO, WORK), RAISE, "1"), ([("way", "undo", None, 1)], RAISE, ""))
        rows = [("way", "undo", None, 0)]
        self.assertEqual(self.unwound(pile_of(UNDO, WORK), RAISE, "0"), (rows, ("raise", "undo"), ""))

    def test_empty_pile(self):
        for pending in (RETURN, RAISE, ("leave", "x")):
            self.assertEqual(self.unwound(Pile(sample_book()), pending, "011"), ([], pending, "011"))

    def test_left_over_answers(self):
        for rest in ("", "0", "1", "0110"):
            rows = [("way", "work", None, 1)]
            self.assertEqual(self.unwound(pile_of(UNDO, WORK), RETURN, "1" + rest), (rows, RETURN, rest))
            self.assertEqual(self.unwound(pile_of(UNDO), RETURN, rest), ([], RETURN, rest))

    def test_names_of_the_arguments(self):
        rows, shown, rest = pile_of(WORK).unwind(pending=RETURN, store=(0, 0), world=World((1, 0)))
        self.assertEqual((rows, shown, rest), ([("way", "work", None, 1)], RETURN, World((0,))))

    def test_store(self):
        pile = pile_of(
            act("done", "work", ("now", "n")), act("done", "undo", ("late", "n"), act("done", "gain", ("now", "a"))),
            store=(0, 1),
        )
        rows = [("way", "undo", 2, 1), ("way", "gain", 1, 1), ("way", "work", 1, 1)]
        self.assertEqual(self.unwound(pile, RETURN, "111", (1, 2)), (rows, ("return", 8), ""))

    def test_too_few_answers(self):
        rows = [("way", "work", 3, 1), ("way", "work", 2, 0), ("way", "undo", None, 1)]
        for many in range(3):
            pile = pile_of(UNDO, UNDO, act("done", "work", 2), act("done", "work", 3))
            pile.limit = 7
            with self.assertRaises(NoAnswer) as caught:
                pile.unwind(RETURN, (0, 0), World((1, 0, 1)[:many]))
            self.assertEqual(caught.exception.rows, tuple(rows[:many]))
            self.assertIsInstance(caught.exception.rows, tuple)
            self.assertEqual((len(pile), list(pile), pile.limit), (0, [], 7))
            pile += WORK
            self.assertEqual(self.unwound(pile, RETURN, "1"), ([("way", "work", None, 1)], RETURN, ""))

    def test_limit_stays(self):
        pile = pile_of(WORK, WORK)
        pile.limit = 2
        self.unwound(pile, RETURN, "11")
        self.assertEqual(pile.limit, 2)
        self.put_refused(TooLarge, 2, pile, WORK, WORK, WORK)

    def test_further_actions_do_not_count_for_the_limit(self):
        pile = pile_of(act("done", "work", 1, BOTH, act("done", "undo", 2, BOTH, BOTH, BOTH), BOTH))
        pile.limit = 1
        rows = [("way", "work", 1, 1), ("way", "work", 4, 1), ("way", "undo", 2, 1)]
        rows = rows + [("way", "work", 4, 1)] * 4
        self.assertEqual(self.unwound(pile, RETURN, "1111111"), (rows, RETURN, ""))
        self.assertEqual(pile.limit, 1)

    def test_as_the_way_out_of_a_body(self):
        steps = ("work", "gain", "away", "cure", "turn")
        for first, second in product(steps, steps):
            actions = (
                act("always", first, 1, act("always", second, 2)), act("always", second, ("late", "n"), UNDO),
                act("done", first, ("now", "a")),
            )
            for left in (RETURN, RAISE):
                statements = [("set", "n", 2), *[("put", action) for action in actions], left]
                body = Body(sample_book(), statements)
                for world in worlds(4):
                    found = run(body, world)[1:]
                    pile = pile_of(*actions, store=(0, 2))
                    if not found or found[-1][0] != "end":
                        with self.assertRaises(NoAnswer) as caught:
                            pile.unwind(left, (0, 2), world)
                        self.assertEqual(list(caught.exception.rows), found)
                        continue
                    rest = world.text[len(found) - 1:]
                    self.assertEqual(self.unwound(pile, left, world.text, (0, 2)), (found[:-1], found[-1][1], rest))

    def test_returned_list_is_new(self):
        pile = pile_of(WORK)
        rows = pile.unwind(RETURN, (0, 0), World((1,)))[0]
        rows.append(5)
        pile += WORK
        self.assertEqual(self.unwound(pile, RETURN, "1")[0], [("way", "work", None, 1)])


class CutTest(PileCase):
    def test_each_place(self):
        halves = [WORK, act("done", "work", 4), act("error", "work", 4), UNDO]
        for at in range(5):
            pile = pile_of(WORK, BOTH, UNDO)
            pile.limit = 9
            upper = pile.cut(at=at)
            self.assertIsInstance(upper, Pile)
            self.assertIsNot(upper, pile)
            self.assertEqual((list(pile), list(upper)), (halves[:at], halves[at:]))
            self.assertEqual((len(pile), len(upper)), (at, 4 - at))
            self.assertEqual((pile.limit, upper.limit), (9, 9))

    def test_empty_pile(self):
        pile = Pile(sample_book())
        pile.limit = 0
        upper = pile.cut(0)
        self.assertEqual((list(pile), list(upper), upper.limit), ([], [], 0))

    def test_beyond(self):
        for actions in ((), (WORK,), (WORK, BOTH)):
            pile = pile_of(*actions)
            for at in (-1, -2, len(pile) + 1, len(pile) + 2, 1000, HUGE, -HUGE):
                self.refused(BadNumber, at, pile, lambda pile: pile.cut(at))

    def test_the_two_piles_are_apart(self):
        pile = pile_of(WORK, UNDO)
        upper = pile.cut(1)
        upper += BOTH
        pile += act("done", "cure")
        upper.limit = 5
        self.assertEqual(list(pile), [WORK, act("done", "cure")])
        self.assertEqual(list(upper), [UNDO, act("done", "work", 4), act("error", "work", 4)])
        self.assertEqual((pile.limit, upper.limit), (100, 5))

    def test_same_book(self):
        upper = pile_of(WORK, UNDO).cut(1)
        self.put_refused(UnknownStep, "missing", upper, act("done", "missing"))
        self.assertEqual(upper.unwind(RAISE, (0, 0), World((1,)))[0], [("way", "undo", None, 1)])


class LayTest(PileCase):
    def test_another_pile(self):
        pile, other = pile_of(WORK), pile_of(BOTH, UNDO)
        pile.limit = 4
        self.assertIsNone(pile.lay(other=other))
        self.assertEqual(list(pile), [WORK, act("done", "work", 4), act("error", "work", 4), UNDO])
        self.assertEqual(list(other), [act("done", "work", 4), act("error", "work", 4), UNDO])
        self.assertEqual((pile.limit, other.limit), (4, 100))
        pile.unwind(RETURN, (0, 0), World((1, 1)))
        self.assertEqual(len(other), 3)

    def test_the_pile_itself(self):
        pile = pile_of(WORK, UNDO)
        pile.lay(pile)
        self.assertEqual(list(pile), [WORK, UNDO, WORK, UNDO])
        pile.limit = 7
        self.refused(TooLarge, 7, pile, lambda pile: pile.lay(pile))
        pile.limit = 8
        pile.lay(pile)
        self.assertEqual(list(pile), [WORK, UNDO] * 4)

    def test_empty_piles(self):
        pile = pile_of(WORK)
        pile.limit = 1
        pile.lay(Pile(sample_book()))
        self.assertEqual(list(pile), [WORK])
        empty = Pile(sample_book())
        empty.lay(pile)
        self.assertEqual(list(empty), [WORK])

    def test_other_book(self):
        other_kind = sample_book()
        other_kind["work"] = ("heal", 1)
        larger = sample_book()
        larger["more"] = ("plain",)
        fewer_cells = Book.of(("n", 3), **{name: sample_book()[name] for name in sample_book()})
        for book in (other_kind, larger, fewer_cells):
            for limit in (100, 2):
                pile, other = pile_of(WORK), Pile(book)
                pile.limit = limit
                other += BOTH
                with self.assertRaises(OtherBook):
                    pile.lay(other)
                with self.assertRaises(OtherBook):
                    other.lay(pile)
                self.assertEqual(list(pile), [WORK])
                self.assertEqual(list(other), [act("done", "work", 4), act("error", "work", 4)])

    def test_book_with_its_steps_in_another_order(self):
        book = Book.of(("a", 2), ("n", 3))
        for name in sorted(sample_book()):
            book[name] = sample_book()[name]
        self.assertNotEqual(list(book), list(sample_book()))
        other = Pile(book)
        other += UNDO
        pile = pile_of(WORK)
        pile.lay(other)
        self.assertEqual(list(pile), [WORK, UNDO])

    def test_beyond_the_limit(self):
        pile, other = pile_of(WORK), pile_of(BOTH, UNDO)
        other.limit = 3
        for limit in (1, 2, 3):
            pile.limit = limit
            self.refused(TooLarge, limit, pile, lambda pile: pile.lay(other), other)
        pile.limit = 4
        pile.lay(other)
        self.assertEqual(len(pile), 4)

    def test_halves_stay_as_they_are(self):
        late = act("done", "work", ("late", "n"), act("always", "undo", ("now", "n")))
        pile, other = Pile(sample_book()), pile_of(late)
        pile.lay(other)
        self.assertEqual(list(pile), [late])


class PartsTest(PileCase):
    def test_parts_make_the_rows_of_the_whole_pile(self):
        """The last sentence of point 56."""
        actions = (
            act("error", "turn"), act("always", "cure", ("late", "n"), BOTH), act("done", "away", 3, UNDO),
            act("always", "gain", None, act("done", "work", ("now", "a"))), act("error", "cure", 2),
        )
        size = len(pile_of(*actions))
        for at in range(size + 1):
            for pending in (RETURN, RAISE, ("leave", "x")):
                for world in worlds(7):
                    try:
                        whole = pile_of(*actions).unwind(pending, (1, 2), world)
                    except NoAnswer as error:
                        whole = error.rows
                    lower = pile_of(*actions)
                    upper = lower.cut(at)
                    rows = []
                    try:
                        rows, shown, rest = upper.unwind(pending, (1, 2), world)
                        more, shown, rest = lower.unwind(shown, (1, 2), rest)
                        self.assertEqual((rows + more, shown, rest), whole)
                    except NoAnswer as error:
                        self.assertEqual((*rows, *error.rows), whole)

    def test_cut_and_laid_again(self):
        for at in range(5):
            pile = pile_of(WORK, BOTH, UNDO)
            before = list(pile)
            pile.lay(pile.cut(at))
            self.assertEqual(list(pile), before)


if __name__ == "__main__":
    unittest.main()
