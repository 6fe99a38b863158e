import unittest

from exitdeeds.bodies import Body
from exitdeeds.pairs import alike
from exitdeeds.rewriting import early, pruned
from exitdeeds.running import run
from exitdeeds.showing import never
from exitdeeds.worlds import worlds
from exitdeeds.writing import write
from tests.making import Maker, body_of, lines
from tests.texts import LOOP


class RewritingCase(unittest.TestCase):
    def same_runs(self, first, second):
        self.assertTrue(alike(first, second))
        for world in worlds(7):
            self.assertEqual(run(first, world), run(second, world))


class PrunedTest(RewritingCase):
    def check(self, found, *rows, cells=()):
        body = body_of(lines(*rows), *cells)
        made = pruned(body)
        self.assertEqual(write(made), lines(*found))
        self.assertEqual(never(made), [])
        self.assertEqual(pruned(made), made)
        self.assertEqual(made.book, body.book)
        self.same_runs(body, made)

    def stays(self, *rows, cells=()):
        self.check(rows, *rows, cells=cells)

    def test_nothing_to_take_out(self):
        self.stays()
        self.stays(*LOOP.split("\n"))
        self.stays("put undo on error", "put work on done [turn on error; gain on done]", "do work", "leave x")

    def test_an_action_taken_out(self):
        self.check(["return 1"], "put undo on error", "return 1")
        self.check(["put work on done", "return 1"], "put work on done", "put undo on error", "return 1")
        self.check(["raise x"], "put work on done [undo on done]", "raise x")
        self.check(["put undo on error", "do work", "leave x"], "put undo on error", "do work", "put undo on error", "leave x")

    def test_a_further_action_taken_out(self):
        self.check(["put work on done"], "put work on done [undo on error]")
        self.check(["put work on done [gain on done; turn on done]"],
                   "put work on done [gain on done; turn on done; undo on error]")
        self.check(["put work on done [cure on error; gain on done [turn on done]]"],
                   "put work on done [cure on error; gain on done [turn on done; undo on error]; undo on error]")
        self.check(["put work on done [gain on done]"], "put work on done [gain on done [undo on error]; cure on error]")

    def test_a_put_statement_taken_out_of_a_block(self):
        self.check(["while a", "end"], "while a", "  put undo on error", "end")
        self.check(["if a", "else", "  leave x", "end"], "if a", "  put undo on error", "else", "  put undo on error",
                   "  leave x", "end")
        self.check(["when n is 1", "  return 2", "end"], "when n is 1", "  put undo on error", "  return 2", "else",
                   "  put undo on error", "end", cells=[("n", 2)])
        self.check(
            ["while a", "  if b", "    put gain on done", "  else", "    leave x", "  end", "end"],
            "while a", "  if b", "    put gain on done [turn on error]", "  else", "    leave x",
            "    put turn on always", "  end", "end",
        )

    def test_always_becomes_done_or_error(self):
        self.check(["put work on done", "return 1"], "put work on always", "return 1")
        self.check(["put work on error", "raise x"], "put work on always", "raise x")
        self.stays("put work on always", "do gain")
        self.stays("put work on always", "put gain on done", "return 1")
        self.check(["put work on always", "put work on done", "return 1"],
                   "put work on always", "put work on always", "return 1")

    def test_always_with_further_actions(self):
        self.check(["put work on done [gain on done]", "return 1"], "put work on always [gain on done]", "return 1")
        self.check(["put work on error", "raise x"], "put work on always [gain on done; undo on always]", "raise x")
        self.stays("put work on always [gain on done]", "do turn")
        self.check(["put work on done [gain on done]"], "put work on always [gain on always]")
        self.check(["put work on done [gain on always; turn on done]"], "put work on done [gain on always; turn on always]")

    def test_behind_a_statement_that_leaves(self):
        self.check(["return 1"], "return 1", "put work on always [undo on done]")
        self.check(["if a", "  leave x", "  set n 1", "end"], "if a", "  leave x", "  put work on done", "  set n 1",
                   "  put undo on done", "end", cells=[("n", 2)])
        self.stays("return 1", "do work", "while a", "  leave x", "end")

    def test_cells_that_keep_a_half_from_being_asked(self):
        self.check(["set n 1", "when n is 1", "  return 2", "end", "raise x"],
                   "set n 1", "put undo on error", "when n is 1", "  return 2", "end", "raise x", cells=[("n", 2)])

    def test_arguments_stay(self):
        self.check(["put work(late n) on done [gain(n) on done]"], "put work(late n) on always [gain(n) on always; undo on error]",
                   cells=[("n", 2)])

    def test_books_are_not_shared(self):
        body = body_of("put undo on error")
        for made in (pruned(body=body), early(body=body)):
            made.book["more"] = ("plain",)
            self.assertNotIn("more", body.book)

    def test_small_bodies(self):
        shorter = 0
        for seed in range(200):
            body = Maker(seed).body(3)
            made = pruned(body)
            self.assertEqual(never(made), [])
            self.assertTrue(alike(body, made))
            self.assertEqual(len(made.actions()), len(body.actions()) - len(never(body)))
            self.assertEqual(pruned(made), made)
            shorter += len(made) < len(body)
        self.assertGreater(shorter, 30)

    def test_no_half_is_asked_in_vain(self):
        """An action that is still `always` is asked in both states: neither half can be left out."""
        for seed in range(120):
            made = pruned(Maker(seed, distinct=True).body(3))
            for number, action in enumerate(made.actions()):
                if action[0] == "always":
                    for guard in ("done", "error"):
                        further = action[3] if guard == "done" else ()
                        other = with_action(made, number, (guard, *action[1:3], further))
                        self.assertFalse(alike(made, other))


def with_action(body, number, action):
    """The body in which the action with this number is another one."""
    count = [0]

    def changed(old):
        here = count[0]
        count[0] += 1
        further = tuple(changed(part) for part in old[3])
        return action if here == number else (*old[:3], further)

    def inside(statement):
        if statement[0] == "put":
            return ("put", changed(statement[1]))
        if statement[0] in ("if", "while", "when"):
            return tuple(tuple(map(inside, part)) if isinstance(part, tuple) else part for part in statement)
        return statement
    return Body(body.book, [inside(statement) for statement in body.statements])


class EarlyTest(RewritingCase):
    CELLS = (("n", 3), ("a", 2))

    def check(self, found, *rows):
        body = body_of(lines(*rows), *self.CELLS)
        made = early(body)
        self.assertEqual(write(made), lines(*found))
        self.assertEqual(early(made), made)
        self.same_runs(body, made)

    def stays(self, *rows):
        self.check(rows, *rows)

    def test_never_set_behind(self):
        self.check(["put work(n) on done"], "put work(late n) on done")
        self.check(["set n 2", "put work(n) on always", "do gain", "set a 1"],
                   "set n 2", "put work(late n) on always", "do gain", "set a 1")
        self.check(["while x", "  put work(n) on done", "end"], "while x", "  put work(late n) on done", "end")

    def test_set_behind(self):
        self.stays("put work(late n) on done", "set n 1")
        self.stays("while x", "  put work(late n) on done", "  set n 1", "end")

    def test_set_behind_on_one_way(self):
        self.stays("put work(late n) on done", "if x", "  set n 1", "end")
        self.check(["put work(n) on done", "if x", "  set n 1", "  raise y", "end"],
                   "put work(late n) on done", "if x", "  set n 1", "  raise y", "end")
        self.stays("put work(late n) on always", "if x", "  set n 1", "  raise y", "end")

    def test_set_back_to_its_value(self):
        self.check(["put work(n) on done", "set n 1", "set n 0"], "put work(late n) on done", "set n 1", "set n 0")
        self.check(["set n 2", "put work(n) on done", "set n 1", "if x", "  set n 2", "else", "  set n 2", "end"],
                   "set n 2", "put work(late n) on done", "set n 1", "if x", "  set n 2", "else", "  set n 2", "end")
        # A failing question leaves between the two, but then nothing is asked.
        self.check(["put work(n) on done", "set n 1", "do gain", "set n 0"],
                   "put work(late n) on done", "set n 1", "do gain", "set n 0")
        self.stays("put work(late n) on error", "set n 1", "do gain", "set n 0")

    def test_set_to_the_value_that_it_has(self):
        self.check(["set n 1", "put work(n) on done", "set n 1"], "set n 1", "put work(late n) on done", "set n 1")

    def test_never_asked(self):
        self.check(["put work(n) on error", "set n 1"], "put work(late n) on error", "set n 1")
        self.check(["return 1", "put work(n) on done", "set n 2"], "return 1", "put work(late n) on done", "set n 2")
        self.check(["when n is 1", "  put work(a) on done", "end", "set a 1"],
                   "when n is 1", "  put work(late a) on done", "end", "set a 1")

    def test_dead_for_the_way_on_which_it_is_set(self):
        self.check(["put work(n) on error", "do gain", "set n 1"], "put work(late n) on error", "do gain", "set n 1")
        self.stays("put work(late n) on error", "do gain", "set n 1", "put gain on done")

    def test_one_half_that_shows_another_value(self):
        self.stays("put work(late n) on always", "do gain", "set n 1")
        self.stays("put work(late n) on always", "if x", "  set n 1", "  raise y", "end")

    def test_further_actions_stay(self):
        self.check(["put work(n) on done [gain(late n) on done; undo(a) on done]"],
                   "put work(late n) on done [gain(late n) on done; undo(a) on done]")
        self.stays("put work on done [gain(late n) on done]")
        self.stays("put work(n) on done [gain(late n) on done]", "set n 1")

    def test_other_arguments_stay(self):
        self.stays("put work(7) on done", "put work on always", "put work(n) on error", "do work(n)", "set n 1")

    def test_each_statement_for_itself(self):
        self.check(
            ["put work(late n) on done", "put work(a) on done", "set n 1", "put work(n) on done", "if x", "  set a 1",
             "  put gain(a) on done", "  raise x", "end"],
            "put work(late n) on done", "put work(late a) on done", "set n 1", "put work(late n) on done", "if x",
            "  set a 1", "  put gain(late a) on done", "  raise x", "end",
        )

    def test_in_a_loop(self):
        # The turn that sets the cell comes behind turns that did not.
        self.stays("while x", "  put work(late n) on done", "  if y", "    set n 2", "  end", "end")
        self.check(["while x", "  set n 2", "  put work(n) on done", "end"],
                   "while x", "  set n 2", "  put work(late n) on done", "end")

    def test_small_bodies(self):
        """A late argument stays exactly if the body would not be alike without it."""
        counts = {"now": 0, "late": 0}
        for seed in range(700):
            body = Maker(seed).body()
            made = early(body)
            self.assertTrue(alike(body, made))
            for number, action in enumerate(made.actions()):
                old = body.actions()[number]
                if old[2] != action[2]:
                    self.assertEqual((old[2][0], action[2][0]), ("late", "now"))
                    counts["now"] += 1
            count = 0
            for statement in flat(made.statements):
                if statement[0] == "put":
                    action = statement[1]
                    if isinstance(action[2], tuple) and action[2][0] == "late":
                        other = with_action(made, count, (*action[:2], ("now", action[2][1]), action[3]))
                        self.assertFalse(alike(made, other))
                        counts["late"] += 1
                    count += many_actions(action)
        self.assertGreater(min(counts.values()), 10)


def many_actions(action):
    return 1 + sum(many_actions(part) for part in action[3])


def flat(block):
    """All the statements of a block in reading order."""
    found = []
    for statement in block:
        found.append(statement)
        if statement[0] in ("if", "while", "when"):
            for part in statement:
                if isinstance(part, tuple):
                    found.extend(flat(part))
    return found


if __name__ == "__main__":
    unittest.main()
