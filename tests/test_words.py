import random
import unittest

from exitdeeds.actions import halves
from exitdeeds.books import Book
from exitdeeds.errors import NoAnswer
from exitdeeds.exits import state
from exitdeeds.piles import Pile
from exitdeeds.words import agenda, live, normal, states_below
from exitdeeds.worlds import World
from tests.making import EXITS, KINDS, Maker, act, sample_book

DONE, ERROR, BOTH = ("done",), ("error",), ("done", "error")
SETS = ((), DONE, ERROR, BOTH)


def ways_out(book, word, leaving):
    """All finished ways out of a word, as rows and the exit that shows."""
    found = []
    waiting = [()]
    while waiting:
        answers = waiting.pop()
        pile = Pile(book)
        pile.change_limit(999)
        # A word may have actions that a pile refuses; so they are put as further actions are.
        pile._halves = tuple(half for action in word for half in halves(action))
        try:
            rows, shown, _ = pile.unwind(*leaving, World(answers))
            found.append((tuple(rows), shown))
        except NoAnswer:
            waiting.extend([(*answers, 1), (*answers, 0)])
    return found


class StatesTest(unittest.TestCase):
    def below(self, states, *word, book=None):
        return states_below(word, states, sample_book() if book is None else book)

    def test_no_action(self):
        for states in SETS:
            self.assertEqual(states_below([], states, sample_book()), states)
            self.assertEqual(states_below(word=(), states=states, book=sample_book()), states)

    def test_done_halves(self):
        for step in KINDS:
            half = act("done", step)
            self.assertEqual([self.below(states, half) for states in SETS], [(), BOTH, ERROR, BOTH])

    def test_error_halves(self):
        for step in KINDS:
            half = act("error", step)
            calm = BOTH if step in ("cure", "away") else ERROR
            self.assertEqual([self.below(states, half) for states in SETS], [(), DONE, calm, BOTH])

    def test_always(self):
        for step in KINDS:
            action = act("always", step)
            calm = BOTH if step in ("cure", "away") else ERROR
            self.assertEqual([self.below(states, action) for states in SETS], [(), BOTH, calm, BOTH])

    def test_from_the_last_to_the_first(self):
        self.assertEqual(self.below(ERROR, act("error", "cure"), act("done", "work")), BOTH)
        self.assertEqual(self.below(DONE, act("error", "cure"), act("error", "work")), DONE)
        self.assertEqual(self.below(ERROR, act("done", "work"), act("error", "work")), ERROR)
        self.assertEqual(self.below(ERROR, act("done", "work"), act("error", "turn"), act("error", "away")), BOTH)

    def test_further_actions_change_nothing(self):
        word = act("done", "gain", 1, act("done", "work"), act("error", "work"))
        self.assertEqual([self.below(states, word) for states in SETS], [(), BOTH, ERROR, BOTH])

    def test_against_all_ways_out(self):
        for seed in range(150):
            maker = Maker(seed)
            word, store = maker.word(), maker.store()
            for states in SETS:
                found = set()
                for left in EXITS:
                    if state(left) in states:
                        found.update(state(shown) for _, shown in ways_out(maker.book, word, (left, store)))
                self.assertEqual(states_below(word, states, maker.book), tuple(sorted(found)))


class NormalTest(unittest.TestCase):
    def check(self, found, *word):
        book = sample_book(("n", 3))
        self.assertEqual(normal(list(word), book), tuple(found))
        self.assertEqual(normal(word, book), tuple(found))
        self.assertEqual(normal(found, book), tuple(found))

    def test_no_action(self):
        self.check([])

    def test_halves_stay_and_always_is_split(self):
        done, error = act("done", "work", ("late", "n")), act("error", "undo", ("now", "n"))
        self.check([done, error], done, error)
        self.check([error, act("done", "gain", 1), act("error", "gain", 1), done], error, act("always", "gain", 1), done)

    def test_dead_halves_of_the_word_itself_stay(self):
        word = [act("error", "work"), act("error", "undo")]
        self.check(word, *word)

    def test_example(self):
        """The example of point 31."""
        book = Book.of(seal=("plain",), sign=("plain",), undo=("plain",), note=("plain",))
        sign, undo, note = act("done", "sign"), act("error", "undo"), act("done", "note")
        word = [act("done", "seal", None, sign, undo, note)]
        self.assertEqual(normal(word, book), (sign, act("done", "seal", None, undo, note)))
        self.assertEqual(normal(word=word, book=book), (sign, act("done", "seal", None, undo, note)))

    def test_dead_further_halves(self):
        work, undo = act("done", "work"), act("error", "undo")
        self.check([act("done", "gain")], act("done", "gain", None, undo))
        self.check([act("done", "gain")], act("done", "gain", None, undo, undo, act("error", "cure")))
        self.check([act("done", "gain", None, undo, work)], act("done", "gain", None, undo, work, undo))
        self.check([work, act("done", "gain")], act("done", "gain", None, work, undo))

    def test_further_always(self):
        # The upper half of a last further action is dead, since the action itself was done.
        self.check([act("done", "undo"), act("done", "gain")], act("done", "gain", None, act("always", "undo")))
        self.check(
            [act("done", "undo"), act("done", "gain", None, act("error", "undo"), act("done", "work"))],
            act("done", "gain", None, act("always", "undo"), act("done", "work")),
        )

    def test_always_with_further_actions(self):
        work = act("done", "work")
        self.check([work, act("done", "gain"), act("error", "gain")], act("always", "gain", None, work))

    def test_several_taken_out_of_one_half(self):
        one, two, three = act("done", "work", 1), act("done", "work", 2), act("done", "work", 3)
        self.check([one, two, three, act("done", "gain")], act("done", "gain", None, one, two, three))
        undo = act("error", "undo")
        self.check([one, two, act("done", "gain", None, undo, three)], act("done", "gain", None, one, two, undo, three))

    def test_two_deep(self):
        undo, one, two = act("error", "undo"), act("done", "work", 1), act("done", "work", 2)
        inner = act("done", "turn", None, one, undo, two)
        # `one` is taken out of `turn` first, and then, with `turn`, out of `gain`.
        short = act("done", "turn", None, undo, two)
        self.check([one, short, act("done", "gain")], act("done", "gain", None, inner))
        self.check([act("done", "gain", None, undo, one, short)], act("done", "gain", None, undo, inner))
        self.check([one, act("done", "turn"), act("done", "gain")],
                   act("done", "gain", None, act("done", "turn", None, one)))

    def test_more_than_3_further_actions(self):
        undo, work = act("error", "undo"), act("done", "work")
        one, two = act("done", "work", 1), act("done", "work", 2)
        word = act("done", "gain", None, undo, act("done", "turn", None, one, two, work), act("always", "work", 3),
                   act("always", "work", 4))
        found = (act("done", "gain", None, undo, one, two, work, act("done", "turn"), act("done", "work", 3),
                     act("error", "work", 3), act("done", "work", 4)))
        self.check([found], word)
        self.check([found], found)

    def test_twice_is_once(self):
        for seed in range(200):
            maker = Maker(seed)
            found = normal(maker.word(), maker.book)
            self.assertEqual(normal(found, maker.book), found)
            self.assertIsInstance(found, tuple)


class LiveTest(unittest.TestCase):
    def check(self, states, found, *word):
        self.assertEqual(live(word, states, sample_book()), tuple(found))
        self.assertEqual(live(word=list(word), states=states, book=sample_book()), tuple(found))

    def test_no_states(self):
        self.check((), [], act("always", "work"), act("done", "cure"))
        for states in SETS:
            self.check(states, [])

    def test_each_guard(self):
        done, error = act("done", "work"), act("error", "work")
        self.check(DONE, [done], done)
        self.check(DONE, [], error)
        self.check(ERROR, [], done)
        self.check(ERROR, [error], error)
        self.check(BOTH, [done], done)
        self.check(BOTH, [error], error)
        self.check(DONE, [done], act("always", "work"))
        self.check(ERROR, [error], act("always", "work"))
        self.check(BOTH, [done, error], act("always", "work"))

    def test_live_below_another_half(self):
        done, error = act("done", "work"), act("error", "undo")
        self.check(DONE, [error, done], error, done)
        self.check(DONE, [done], done, error)
        self.check(ERROR, [error], done, error)
        self.check(ERROR, [error], error, done)
        for step in ("cure", "away"):
            calm = act("error", step)
            self.check(ERROR, [done, calm], done, calm)
            self.check(ERROR, [act("done", step), calm], act("always", step))
            self.check(DONE, [done], done, calm)
        for step in ("turn", "gain"):
            self.check(ERROR, [act("error", step)], done, act("error", step))

    def test_the_normal_form_is_taken(self):
        work, undo = act("done", "work"), act("error", "undo")
        word = act("done", "gain", None, work, undo)
        self.check(DONE, [work, act("done", "gain")], word)
        self.check(BOTH, [undo, work, act("done", "gain")], undo, word)
        self.check(ERROR, [undo], undo, word)

    def test_half_that_is_dead_for_one_set_of_states_is_for_a_smaller_one(self):
        for seed in range(150):
            maker = Maker(seed)
            word = maker.word()
            for states in (DONE, ERROR):
                found = live(live(word, BOTH, maker.book), states, maker.book)
                self.assertEqual(found, live(word, states, maker.book))


class AgendaTest(unittest.TestCase):
    def test_arguments_that_are_read_now_and_late(self):
        book = sample_book(("n", 3), ("a", 2))
        undo = act("error", "undo", ("late", "a"))
        inner = act("done", "work", ("now", "a"))
        word = [act("done", "gain", ("late", "n"), undo, inner), act("done", "work", ("now", "n")), act("done", "work", 5)]
        for value in (0, 1, 2):
            for low in (0, 1):
                found = agenda(word=word, leaving=(("return", 1), (low, value)), book=book)
                further = (act("error", "undo", low), act("done", "work", low))
                self.assertEqual(found, (
                    act("done", "gain", value, *further), act("done", "work", value), act("done", "work", 5),
                ))

    def test_two_deep(self):
        book = sample_book(("n", 3))
        deep = act("done", "turn", ("now", "n"), act("error", "undo", ("late", "n")), act("done", "work", ("now", "n")))
        word = (act("done", "gain", None, act("error", "cure"), deep),)
        deep = act("done", "turn", 2, act("error", "undo", 2), act("done", "work", 2))
        self.assertEqual(agenda(word, (("leave", "x"), (2,)), book), (act("done", "gain", None, act("error", "cure"), deep),))

    def test_state_of_the_exit(self):
        book = sample_book()
        word = [act("always", "work")]
        self.assertEqual(agenda(word, (("return", 1), ()), book), (act("done", "work"),))
        self.assertEqual(agenda(word, (("leave", "x"), ()), book), (act("done", "work"),))
        self.assertEqual(agenda(word, (("raise", "x"), ()), book), (act("error", "work"),))

    def test_an_agenda_acts_like_its_word(self):
        for seed in range(100):
            maker = Maker(seed)
            word, store = maker.word(), maker.store()
            for left in EXITS:
                found = agenda(word, (left, store), maker.book)
                self.assertEqual(
                    ways_out(maker.book, word, (left, store)), ways_out(maker.book, found, (left, store)),
                )
                self.assertEqual(agenda(found, (left, store), maker.book), found)

    def changed(self, chance, word):
        """The word with a change that may make no difference on the way out."""
        word = list(word)
        place = chance.randrange(len(word))
        guard, step, argument, further = word[place]
        kind = chance.randrange(5)
        if kind == 0:
            word.insert(place, act(chance.choice(DONE + ERROR), step, argument))
        elif kind == 1:
            del word[place]
        elif kind == 2:
            word.reverse()
        elif further and further[0][0] == "done":
            word[place:place + 1] = [further[0], (guard, step, argument, further[1:])]
        elif guard == "always":
            word[place] = (chance.choice(BOTH), step, argument, ())
        elif further:
            word[place] = (guard, step, argument, further[:-1])
        return word

    def test_agendas_are_equal_exactly_if_the_ways_out_are(self):
        counts = {True: 0, False: 0}
        for seed in range(250):
            maker = Maker(seed)
            chance = random.Random(seed)
            word = [maker.action(), *maker.word(2)]
            other, store = self.changed(chance, word), maker.store()
            for left in EXITS:
                leaving = (left, store)
                equal = agenda(word, leaving, maker.book) == agenda(other, leaving, maker.book)
                same = ways_out(maker.book, word, leaving) == ways_out(maker.book, other, leaving)
                self.assertEqual(equal, same, (word, other, leaving))
                counts[equal] += 1
        self.assertGreater(min(counts.values()), 100)


if __name__ == "__main__":
    unittest.main()
