import unittest

from exitdeeds.errors import DeedError, Finished, OtherSide
from exitdeeds.policies import Policy, policy
from exitdeeds.running import run
from exitdeeds.showing import shows
from exitdeeds.walks import Walk
from exitdeeds.worlds import World, worlds
from tests.making import Maker, body_of, lines

FAST = lines("if fast", "  return 1", "end", "do work", "return 2")


def moment(body, answers):
    """The walk to which these answers have been given."""
    return Walk.read(body, World(answers).text)


def asks_first(question, tests):
    return question[0] == "test" and question[1] in tests


class Games:
    """The game over a body, played for all answers; at most so many questions before the body leaves."""

    def __init__(self, body, tests, exits):
        self.body, self.tests, self.exits = body, tests, exits

    def least(self, answers, most):
        """The least number of questions before the body leaves with which the first side wins, or None."""
        walk = moment(self.body, answers)
        if walk.pending is not None:
            return 0 if self.only_wanted(answers) else None
        if most == 0:
            return None
        found = [self.least((*answers, answer), most - 1) for answer in (0, 1)]
        if asks_first(walk.question, self.tests):
            found = [many for many in found if many is not None]
            return 1 + min(found) if found else None
        return None if None in found else 1 + max(found)

    def only_wanted(self, answers):
        walk = moment(self.body, answers)
        if walk.question is None:
            return walk.pending in self.exits
        return all(self.only_wanted((*answers, answer)) for answer in (0, 1))


class PolicyCase(unittest.TestCase):
    def played(self, body, tests, exits, longest=8):
        """Play the policy against every play of the other side."""
        made = policy(body, tests, exits)
        self.assertIsInstance(made, Policy)
        self.assertIs(made.wins, made.most is not None)
        self.play_on(made, body, tests, exits, (), longest)
        return made

    def play_on(self, made, body, tests, exits, answers, left):
        walk = moment(body, answers)
        world = World(answers)
        if walk.question is None:
            self.assertRaises(Finished, made.answer, world)
            self.assertEqual(walk.pending in exits, made.wins)
            return
        if made.wins and walk.pending is None:
            self.assertLess(len(answers), made.most)
        if left == 0:
            return
        if asks_first(walk.question, tests) == made.wins:
            choices = [made.answer(world)]
            self.assertIn(choices[0], (0, 1))
            self.assertEqual(made.answer(world=World(answers)), choices[0])
        else:
            choices = (0, 1)
            with self.assertRaises(OtherSide) as caught:
                made.answer(world)
            self.assertIsInstance(caught.exception, DeedError)
        for answer in choices:
            self.play_on(made, body, tests, exits, (*answers, answer), left - 1)

    def check(self, text, tests, exits, most, *cells):
        """`most` is None if the second side wins."""
        made = self.played(body_of(text, *cells), tests, exits)
        self.assertEqual(made.most, most)
        return made


class ExampleTest(PolicyCase):
    def test_fast(self):
        made = self.check(FAST, ("fast",), (("return", 1),), 1)
        self.assertIs(made.wins, True)
        self.assertEqual(made.answer(World(())), 1)

    def test_slow(self):
        made = self.check(FAST, ("fast",), (("return", 2),), None)
        self.assertIs(made.wins, False)
        self.assertEqual(made.answer(World.read("0")), 0)
        self.assertRaises(OtherSide, made.answer, World(()))
        self.assertRaises(Finished, made.answer, World.read("1"))

    def test_arguments_by_name(self):
        made = policy(body=body_of(FAST), tests=["fast"], exits=[("return", 1)])
        self.assertEqual((made.wins, made.most), (True, 1))


class KindTest(PolicyCase):
    def test_no_tests(self):
        self.check("", (), (("return", 0),), 0)
        self.check("", [], [("return", 1)], None)
        self.check(FAST, (), (("return", 1),), None)
        self.check(FAST, (), (("return", 1), ("return", 2), ("raise", "work")), 2)

    def test_no_exits(self):
        for tests in ((), ("fast",)):
            self.check(FAST, tests, (), None)
            self.check("", tests, [], None)

    def test_twice_and_what_does_not_occur(self):
        self.check(FAST, ["fast", "other", "fast"], [("return", 1), ("leave", "zero"), ("return", 1)], 1)
        self.check(FAST, ["other"], [("return", 1)], None)
        # The name of a step is not that of a test.
        self.check("do work", ["work"], [("return", 0)], None)
        self.check(lines("if work", "  do work", "end", "leave x"), ["work"], [("leave", "x")], 1)
        self.check(lines("if work", "end", "do work", "leave x"), ["work"], [("leave", "x")], None)
        self.check(FAST, ["fast"], [("leave", "fast"), ("return", 3)], None)

    def test_arguments_are_copied(self):
        tests, exits = ["fast"], [("return", 1)]
        made = policy(body_of(FAST), tests, exits)
        tests.clear()
        exits.clear()
        self.assertEqual(made.answer(World(())), 1)
        tests, exits = [], [("return", 9)]
        made = policy(body_of(lines("if a", "end", "put gain on done")), tests, exits)
        tests.append("a")
        exits.append(("raise", "gain"))
        exits.append(("return", 8))
        self.assertIn(made.answer(World(())), (0, 1))
        self.assertIn(made.answer(World.read("0")), (0, 1))

    def test_both_sides_ask_in_turns(self):
        text = lines("if a", "  if b", "    return 1", "  end", "  return 2", "end", "if b", "  return 2", "end", "return 1")
        self.check(text, ("b",), (("return", 1),), 2)
        self.check(text, ("a",), (("return", 1),), None)
        self.check(text, ("a", "b"), (("return", 1),), 2)
        self.check(text, (), (("return", 1), ("return", 2)), 2)

    def test_answers_left_over(self):
        made = policy(body_of(FAST), ("fast",), (("return", 1),))
        self.assertRaises(Finished, made.answer, World.read("1000"))
        self.assertRaises(Finished, made.answer, World.read("00111"))

    def test_off_the_way_of_the_winning_side(self):
        made = policy(body_of(lines("if a", "  return 1", "end", "while a", "end", "return 2")), ("a",), (("return", 1),))
        for text in ("0", "01", "0111"):
            self.assertIn(made.answer(World.read(text)), (0, 1))


class LoopTest(PolicyCase):
    def test_the_second_side_stays_for_ever(self):
        text = lines("while more", "end", "return 1")
        made = self.check(text, (), (("return", 1),), None)
        for many in range(40):
            self.assertEqual(made.answer(World((1,) * many)), 1)
        self.check(lines("while more", "  if a", "    return 1", "  end", "end", "return 2"), ("more",), [("return", 1)], None)

    def test_the_first_side_leaves(self):
        text = lines("while more", "  do work", "end", "return 1")
        made = self.check(text, ("more",), (("return", 1),), 1)
        self.assertEqual(made.answer(World.read("11")), 0)
        made = self.check(text, ("more",), (("raise", "work"),), None)
        self.assertEqual(made.answer(World.read("1")), 1)
        text = lines("while more", "  if a", "    return 1", "  end", "end", "return 2")
        made = self.check(text, ("a",), (("return", 1), ("return", 2)), 2)
        self.assertEqual(made.answer(World.read("1")), 1)

    def test_the_first_side_has_to_wait(self):
        """The exit that the first side wants can be had in the second turn."""
        text = lines("while a", "  when n is 1", "    return 1", "  end", "  set n 1", "end", "return 2")
        self.check(text, ("a",), (("return", 1),), 2, ("n", 2))
        self.check(text, ("a",), (("return", 2),), 1, ("n", 2))
        self.check(text, (), (("return", 1), ("return", 2)), 2, ("n", 2))


class MostTest(PolicyCase):
    def test_counted_by_hand(self):
        self.check("return 1", (), [("return", 1)], 0)
        self.check("do work", (), [("return", 0), ("raise", "work")], 1)
        self.check(lines("do work", "do undo"), (), [("return", 0), ("raise", "work"), ("raise", "undo")], 2)
        text = lines("if a", "  do work", "  do work", "  return 1", "end", "do undo", "return 1")
        exits = [("return", 1), ("raise", "work"), ("raise", "undo")]
        self.check(text, ("a",), exits, 2)
        self.check(text, (), exits, 3)
        # The shorter way does not always show the exit.
        self.check(text, ("a",), exits[:2], 3)

    def test_questions_on_the_way_out_do_not_count(self):
        self.check(lines("put work on done", "put undo on done"), (),
                   [("return", 0), ("raise", "work"), ("raise", "undo")], 0)
        text = lines("if a", "  put work on done", "end", "put gain on always")
        self.check(text, ("a",), [("return", 8), ("raise", "gain")], 1)
        self.check(text, (), [("return", 8), ("raise", "gain")], None)
        self.check(text, (), [("return", 8), ("raise", "gain"), ("raise", "work")], 1)

    def test_the_greatest_number(self):
        text = lines(*["if a\n  return 1\nend"] * 5, "return 1")
        self.check(text, (), [("return", 1)], 5)
        self.check(text, ("a",), [("return", 1)], 1)


class WayOutTest(PolicyCase):
    def test_exits_that_show_only_by_the_answers_on_the_way_out(self):
        text = "put gain on done"
        self.check(text, (), [("return", 8)], None)
        self.check(text, (), [("return", 8), ("raise", "gain")], 0)
        self.check(text, (), [("raise", "gain")], None)
        self.check(text, (), [("return", 0)], None)
        made = policy(body_of(text), (), [("raise", "gain")])
        self.assertEqual(made.answer(World(())), 1)
        made = policy(body_of(text), (), [("return", 8)])
        self.assertEqual(made.answer(World(())), 0)

    def test_the_second_side_looks_at_what_lies_below(self):
        text = lines("put cure on error", "put work on done", "return 7")
        made = self.check(text, (), [("return", 7)], None)
        # A failing `work` alone is healed; `cure` has to fail too.
        self.assertEqual(made.answer(World(())), 0)
        self.assertEqual(made.answer(World.read("0")), 0)
        made = self.check(text, (), [("raise", "cure")], None)
        self.assertIn(made.answer(World(())), (0, 1))
        self.check(text, (), [("return", 7), ("raise", "cure")], 0)

    def test_further_actions(self):
        text = lines("put work on done [gain on done]", "return 1")
        made = self.check(text, (), [("return", 8), ("raise", "work")], None)
        self.assertEqual(made.answer(World(())), 1)
        self.assertEqual(made.answer(World.read("1")), 0)
        made = self.check(text, (), [("raise", "gain"), ("return", 8)], None)
        self.assertEqual(made.answer(World(())), 0)

    def test_the_other_side_on_the_way_out(self):
        made = policy(body_of("put work on done"), ("work",), [("return", 0), ("raise", "work")])
        self.assertTrue(made.wins)
        self.assertRaises(OtherSide, made.answer, World(()))
        self.assertRaises(Finished, made.answer, World.read("0"))

    def test_what_the_first_side_lets_be_put(self):
        text = lines("put work on done", "if a", "  put cure on error", "end", "if b", "  put away on done", "end", "return 1")
        self.check(text, ("a", "b"), [("return", 1), ("raise", "work")], 2)
        self.check(text, ("a",), [("return", 1), ("raise", "work")], None)
        text = lines("while a", "  put away on always", "end", "do work", "return 1")
        exits = [("leave", "home"), ("raise", "away")]
        made = self.check(text, ("a",), exits, 3)
        self.assertEqual(made.answer(World(())), 1)

    def test_a_long_stack(self):
        body = body_of(lines("while a", "  put cure on error", "  put work on done", "end", "return 1"))
        made = policy(body, ("a",), [("return", 7)])
        self.assertFalse(made.wins)
        world = World((1,) * 300 + (0,))
        self.assertIn(made.answer(world), (0, 1))
        answers = list(world)
        while run(body, World(answers))[-1][0] != "end":
            answers.append(made.answer(World(answers)))
        self.assertNotEqual(run(body, World(answers))[-1], ("end", ("return", 7)))


class RandomTest(PolicyCase):
    def test_against_every_play(self):
        counts = {True: 0, False: 0}
        greater = 0
        for seed in range(250):
            maker = Maker(seed)
            body = maker.body(maker.random.choice([1, 2, 3, 4]))
            exits = [shown for shown in shows(body) if maker.random.random() < 0.75] + [("leave", "nowhere")]
            tests = maker.random.choice([(), ("more",), ("fast", "more", "other")])
            made = self.played(body, tests, exits, 7)
            counts[made.wins] += 1
            found = Games(body, tests, exits).least((), 5)
            if found is None:
                self.assertFalse(made.wins and made.most <= 5)
            else:
                self.assertEqual(made.most, found)
                greater += found > 1
        self.assertGreater(min(counts.values()), 60)
        self.assertGreater(greater, 8)

    def test_answers_for_all_worlds(self):
        for seed in range(60):
            body = Maker(seed).body()
            made = policy(body, ("more",), shows(body)[::2])
            for world in worlds(5):
                rows = run(body, world)
                if rows and rows[-1][0] == "end":
                    self.assertRaises(Finished, made.answer, world)
                elif asks_first(moment(body, world.answers).question, ("more",)) == made.wins:
                    self.assertIn(made.answer(world), (0, 1))
                else:
                    self.assertRaises(OtherSide, made.answer, world)


if __name__ == "__main__":
    unittest.main()
