import unittest

from exitdeeds.agendas import Agendas
from exitdeeds.lying import lying
from exitdeeds.plans import plan
from exitdeeds.running import inside, run
from exitdeeds.words import agenda
from exitdeeds.worlds import worlds
from tests.making import Maker, act, body_of, lines

END = ("return", 0)


def out_row(body, world):
    """The leaving that the body makes for the world, or None."""
    found = [row for row in run(body, world) if row[0] == "out"]
    return found[0][1:] if found else None


def seen(body, leaving, many_worlds):
    """The agendas with which the body makes the leaving for these worlds."""
    found = set()
    for world in many_worlds:
        if out_row(body, world) == leaving:
            found.add(agenda(inside(body, world.answers)[1], leaving, body.book))
    return found


class LyingTest(unittest.TestCase):
    def check(self, found, leaving, text, *cells):
        made = lying(body_of(text, *cells), leaving)
        self.assertIsInstance(made, Agendas)
        self.assertEqual(made, Agendas.of(*found))
        self.assertTrue(made.finite)

    def test_nothing_is_put(self):
        self.check([()], (END, ()), "")
        self.check([()], (("raise", "work"), ()), "do work")

    def test_a_leaving_that_is_never_made(self):
        self.check([], (("return", 1), ()), "")
        self.check([], (("leave", "x"), ()), lines("return 0", "leave x"))
        self.check([], (END, (1,)), "put work on done", ("n", 2))
        self.check([], (END, ()), "put work on done", ("n", 2))
        self.assertFalse(lying(body=body_of("put work on done"), leaving=(("raise", "work"), ())))

    def test_two_leavings_of_one_body(self):
        text = lines("put undo on always", "do work", "put work on done", "return 3")
        self.check([(act("error", "undo"),)], (("raise", "work"), ()), text)
        self.check([(act("done", "undo"), act("error", "undo"), act("done", "work"))], (("return", 3), ()), text)
        self.check([], (("return", 0), ()), text)

    def test_one_exit_with_two_stores(self):
        text = lines("if a", "  set n 1", "  put work(late n) on done", "end", "put undo(late n) on done")
        self.check([(act("done", "undo", 0),)], (END, (0,)), text, ("n", 2))
        self.check([(act("done", "work", 1), act("done", "undo", 1))], (END, (1,)), text, ("n", 2))

    def test_a_choice(self):
        work, undo, gain = act("done", "work"), act("done", "undo"), act("done", "gain")
        text = lines("if a", "  put work on done", "else", "  put undo on done", "end", "if b", "  put gain on done", "end")
        self.check([(work,), (undo,), (work, gain), (undo, gain)], (END, ()), text)

    def test_dead_actions(self):
        work, undo = act("done", "work"), act("error", "undo")
        text = lines("put undo on error", "if a", "  put work on done", "end", "put undo on error")
        self.check([(), (undo, work)], (END, ()), text)
        text = lines("put work on done", "put undo on error", "raise x")
        self.check([(undo,)], (("raise", "x"), ()), text)

    def test_actions_that_come_to_the_same(self):
        text = lines("if a", "  put work on done [undo on done]", "else", "  put undo on done", "  put work on done", "end")
        self.check([(act("done", "undo"), act("done", "work"))], (END, ()), text)

    def test_cells_that_are_read_now_and_late(self):
        text = lines("put work(n) on done", "put undo(late n) on done", "put gain on done [cure on error; work(n) on done]",
                     "set n 2", "put work(n) on done")
        self.check(
            [(act("done", "work", 0), act("done", "undo", 2),
              act("done", "gain", None, act("error", "cure"), act("done", "work", 2)), act("done", "work", 2))],
            (END, (2,)), text, ("n", 3),
        )

    def test_two_arguments_that_read_the_same_value(self):
        text = lines("set n 1", "if a", "  put work(n) on done", "else", "  put work(late n) on done", "end")
        self.check([(act("done", "work", 1),)], (END, (1,)), text, ("n", 2))

    def test_a_loop(self):
        found = lying(body_of(lines("while a", "  put undo on error", "  put work on done", "end")), (END, ()))
        pair = (act("error", "undo"), act("done", "work"))
        self.assertFalse(found.finite)
        self.assertEqual(found.size, 2)
        for many in range(6):
            self.assertIn(pair * many, found)
            self.assertNotIn((*pair * many, pair[0]), found)
            self.assertNotIn((pair[1], *pair * many), found)

    def test_a_loop_whose_actions_are_dead(self):
        self.check([()], (END, ()), lines("while a", "  put undo on error", "end"))
        self.check([()], (("raise", "x"), ()), lines("while a", "  put undo on done", "end", "raise x"))
        text = lines("while a", "  put undo on error", "end", "put work on done")
        found = lying(body_of(text), (END, ()))
        self.assertFalse(found.finite)
        self.assertIn((act("error", "undo"), act("error", "undo"), act("done", "work")), found)
        self.assertNotIn((), found)

    def test_a_loop_before_an_error(self):
        text = lines("while a", "  do work", "  put undo on error", "end")
        found = lying(body_of(text), (("raise", "work"), ()))
        self.assertEqual(list(found.words(3)), [(act("error", "undo"),) * many for many in range(4)])
        self.assertEqual(lying(body_of(text), (END, ())), Agendas.of(()))

    def test_a_loop_in_a_loop(self):
        text = lines("while a", "  put work on done", "  while b", "    put undo on done", "  end", "end")
        found = lying(body_of(text), (END, ()))
        work, undo = act("done", "work"), act("done", "undo")
        for word in ((), (work,), (work, undo, undo, work), (work, work, undo)):
            self.assertIn(word, found)
        for word in ((undo,), (undo, work)):
            self.assertNotIn(word, found)

    def test_each_world_of_small_bodies(self):
        many_worlds = list(worlds(7))
        infinite = 0
        for seed in range(120):
            maker = Maker(seed)
            body = maker.body(3)
            for leaving in plan(body).leavings():
                found = lying(body, leaving)
                lie = seen(body, leaving, many_worlds)
                for word in lie:
                    self.assertIn(word, found)
                if found.finite and found != Agendas.of(*lie):
                    lie |= seen(body, leaving, [maker.world(30) for _ in range(2000)])
                    self.assertEqual(found, Agendas.of(*lie))
                infinite += not found.finite
        self.assertGreater(infinite, 5)

    def test_the_short_words_of_infinite_sets(self):
        many_worlds = list(worlds(9))
        for rows in (
            ["put work on done"], ["if b", "  put work on done", "else", "  put undo on always", "end"],
            ["put undo on error", "do work", "put work on done"], ["when n is 0", "  put work on done", "end", "set n 1"],
        ):
            body = body_of(lines("while a", *rows, "end"), ("n", 2))
            for leaving in plan(body).leavings():
                found = set(lying(body, leaving).words(2))
                self.assertEqual(found, {word for word in seen(body, leaving, many_worlds) if len(word) <= 2})


if __name__ == "__main__":
    unittest.main()
