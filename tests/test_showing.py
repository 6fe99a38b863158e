import unittest

from exitdeeds.errors import NeverShows
from exitdeeds.running import run
from exitdeeds.showing import never, shows, world_for
from exitdeeds.worlds import World, worlds
from tests.making import Maker, body_of, lines, used
from tests.texts import LOOP


def finished(body, longest):
    """The exits that show for some world of this length, with the length of the first such world."""
    found = {}
    for world in worlds(longest):
        rows = run(body, world)
        if rows and rows[-1][0] == "end":
            found.setdefault(rows[-1][1], used(rows))
    return found


class ShowsTest(unittest.TestCase):
    def check(self, found, text, *cells):
        body = body_of(text, *cells)
        self.assertEqual(shows(body), found)
        self.assertEqual(sorted(finished(body, 8)), found)

    def test_without_actions(self):
        self.check([("return", 0)], "")
        self.check([("leave", "x")], lines("leave x", "raise y"))
        self.check([("raise", "work"), ("return", 2)], lines("do work", "return 2"))
        self.check([("return", 0), ("return", 2)], lines("if a", "  set n 2", "end", "return n"), ("n", 3))

    def test_each_kind_of_step(self):
        for step, good, bad in (
            ("work", ("return", 1), ("raise", "x")), ("gain", ("return", 8), ("raise", "x")),
            ("away", ("leave", "home"), ("leave", "home")), ("cure", ("return", 1), ("return", 7)),
            ("turn", ("return", 1), ("raise", "other")),
        ):
            self.check(sorted([good, ("raise", step)]), lines(f"put {step} on done", "return 1"))
            self.check([("return", 1)], lines(f"put {step} on error", "return 1"))
            self.check(sorted([bad, ("raise", step)]), lines(f"put {step} on error", "raise x"))
            self.check([("raise", "x")], lines(f"put {step} on done", "raise x"))

    def test_in_ascending_order(self):
        text = lines("if a", "  return 10", "end", "if a", "  return 9", "end", "if a", "  leave z", "end", "raise b")
        self.check([("leave", "z"), ("raise", "b"), ("return", 9), ("return", 10)], text)

    def test_one_half_above_another(self):
        # The error of `work` is healed below; an error that is healed above stays healed.
        self.check([("raise", "cure"), ("return", 1), ("return", 7)],
                   lines("put cure on error", "put work on done", "return 1"))
        self.check([("raise", "cure"), ("raise", "work"), ("return", 7)],
                   lines("put work on done", "put cure on error", "raise x"))
        self.check([("return", 1)], lines("put cure on error", "put work on error", "return 1"))

    def test_further_actions(self):
        self.check([("leave", "home"), ("raise", "away"), ("raise", "work")],
                   lines("put work on done [away on done]", "return 1"))
        self.check([("raise", "work"), ("return", 1)], lines("put work on done [away on error]", "return 1"))
        self.check([("raise", "other"), ("raise", "turn"), ("raise", "work"), ("return", 1)],
                   lines("put work on done [turn on error; undo on done]", "return 1"))

    def test_loops(self):
        self.check([("raise", "undo"), ("raise", "work"), ("return", 1)], LOOP)
        self.check([("raise", "turn"), ("raise", "work"), ("return", 0)],
                   lines("put turn on done", "while a", "  put work on done", "end"))
        self.check([("raise", "other"), ("raise", "turn"), ("return", 0)],
                   lines("while a", "  put turn on error", "  put work on done", "end"))

    def test_a_new_list(self):
        body = body_of(LOOP)
        shows(body=body).clear()
        self.assertEqual(len(shows(body)), 3)

    def test_small_bodies(self):
        for seed in range(150):
            body = Maker(seed).body(3)
            found = shows(body)
            self.assertEqual(found, sorted(set(found)))
            seen = finished(body, 8)
            self.assertLessEqual(set(seen), set(found))
            for pending in found:
                # What no short world shows is shown by a longer one, which is tried out.
                world = world_for(body, pending)
                self.assertEqual(run(body, world)[-1], ("end", pending))
                self.assertTrue(pending in seen or len(world) > 8)


class WorldForTest(unittest.TestCase):
    def check(self, text, pending, *rows, cells=()):
        self.assertEqual(world_for(body_of(lines(*rows), *cells), pending).text, text)

    def test_without_actions(self):
        self.check("", ("return", 0))
        self.check("0", ("raise", "work"), "do work")
        self.check("11", ("return", 0), "do work", "do work")
        self.check("", ("leave", "x"), "leave x", "do work")

    def test_the_shortest_way_out(self):
        self.check("10", ("raise", "work"), "while a", "  do work", "end")
        self.check("00", ("raise", "undo"), "put undo on error", "put work on done", "return 1")
        self.check("1", ("leave", "home"), "put away on done", "return 1")
        self.check("100", ("raise", "undo"), "while a", "  put undo on error", "  put work on done", "  leave x", "end")

    def test_dropped_actions_need_no_answer(self):
        self.check("", ("return", 1), "put undo on error", "put work on error", "return 1")
        self.check("1", ("return", 1), "put undo on error", "put work on done", "put undo on error", "return 1")

    def test_a_longer_body_with_a_shorter_way_out(self):
        # Leaving at once has two more questions on the way out than leaving later.
        text = lines("put cure on error", "put cure on error", "if a", "  put turn on error", "  put turn on error",
                     "  raise x", "end", "if b", "  raise y", "end", "return 7")
        body = body_of(text)
        world = world_for(body, ("return", 7))
        self.assertEqual(world.text, "00")
        self.assertEqual(run(body, world)[-1], ("end", ("return", 7)))

    def test_exit_that_never_shows(self):
        for text, pending in (
            ("", ("return", 1)), ("", ("leave", "x")), (LOOP, ("raise", "more")), (LOOP, ("return", 0)),
            (lines("put cure on error", "return 1"), ("return", 7)), (lines("return 1", "leave x"), ("leave", "x")),
            (lines("put away on done", "return 1"), ("return", 1)),
        ):
            with self.assertRaises(NeverShows) as caught:
                world_for(body=body_of(text), shown=pending)
            self.assertEqual(caught.exception.shown, pending)

    def test_each_exit_of_small_bodies(self):
        for seed in range(150):
            body = Maker(seed).body(3)
            shortest = finished(body, 7)
            for pending in shows(body):
                world = world_for(body, pending)
                rows = run(body, world)
                self.assertIsInstance(world, World)
                self.assertEqual(rows[-1], ("end", pending))
                self.assertEqual(used(rows), len(world))
                self.assertEqual(min(len(world), 8), shortest.get(pending, 8))


class NeverTest(unittest.TestCase):
    def check(self, found, text, *cells):
        body = body_of(text, *cells)
        self.assertEqual(never(body), found)

    def test_no_actions(self):
        self.check([], "")
        self.check([], LOOP)

    def test_always_dropped(self):
        self.check([0], lines("put undo on error", "return 1"))
        self.check([0], lines("put undo on done", "raise x"))
        self.check([], lines("put undo on error", "put work on done"))
        self.check([], lines("put undo on error", "put work on error", "put work on done"))
        self.check([1, 2], lines("put gain on done", "put undo on error", "put work on error"))

    def test_never_reached(self):
        self.check([0], lines("return 1", "put undo on done"))
        self.check([1], lines("put work on done", "leave x", "put undo on always"))
        self.check([0], lines("when n is 1", "  put undo on always", "end"), ("n", 2))
        self.check([0, 1], lines("do work", "raise x", "while a", "  put undo on always", "  put work on done", "end"))

    def test_dropped_for_one_half_only(self):
        self.check([], lines("put undo on always", "return 1"))
        self.check([], lines("put undo on always", "raise x"))

    def test_at_one_leaving_only(self):
        text = lines("put undo on error", "if a", "  raise x", "end")
        self.check([], text)
        self.check([0], lines("put undo on error", "if a", "  leave x", "end"))
        self.check([0], lines("put undo on done", "do work", "raise x"))
        self.check([0], lines("put undo on done", "while a", "end", "if b", "  raise y", "end", "raise x"))
        self.check([], lines("put undo on error", "do work"))

    def test_in_a_loop(self):
        # Only the actions of the turns before can be asked.
        self.check([], lines("while a", "  put undo on error", "  put work on done", "end"))
        self.check([0], lines("while a", "  put undo on error", "end"))
        self.check([], lines("while a", "  put undo on error", "  do work", "end"))
        self.check([], lines("while a", "  put undo on error", "  when n is 1", "    put work on done", "  end",
                             "  set n 1", "end"), ("n", 2))

    def test_further_actions(self):
        self.check([1], lines("put work on done [undo on error]", "return 1"))
        self.check([], lines("put work on done [undo on error; gain on done]", "return 1"))
        self.check([2], lines("put work on done [gain on done; undo on error]", "return 1"))
        self.check([0, 1, 2], lines("put work on done [gain on done [undo on done]]", "raise x"))
        self.check([3], lines("put work on always [gain on done; cure on done [undo on error]; turn on done]"))
        self.check([1], lines("put work on always [gain on done]", "raise x"))
        self.check([], lines("put work on always [gain on done]", "put cure on error", "raise x"))

    def test_equal_actions_have_numbers_of_their_own(self):
        self.check([1], lines("put undo on error", "if a", "  put undo on error", "  return 1", "end", "do work"))

    def test_a_new_list(self):
        body = body_of(lines("put undo on error", "return 1"))
        never(body=body).clear()
        self.assertEqual(never(body), [0])

    def test_small_bodies(self):
        """Each action that is asked is found in some run, and no other one is."""
        for seed in range(250):
            maker = Maker(seed, distinct=True)
            body = maker.body(3)
            wanted = dict(enumerate(body.actions()))
            for number in never(body):
                del wanted[number]
            numbers = {action[2]: number for number, action in enumerate(body.actions())}
            asked = set()
            for world in [*worlds(6), *[maker.world(40) for _ in range(100)]]:
                asked.update(numbers[row[2]] for row in run(body, world) if row[0] == "way")
            self.assertLessEqual(asked, set(wanted))
            for _ in range(20000):
                if asked == set(wanted):
                    break
                asked.update(numbers[row[2]] for row in run(body, maker.world(60)) if row[0] == "way")
            self.assertEqual(asked, set(wanted))


if __name__ == "__main__":
    unittest.main()
