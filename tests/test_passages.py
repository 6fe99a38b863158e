import unittest

from exitdeeds.actions import all_halves
from exitdeeds.exits import after, state
from exitdeeds.passages import breaking, keeps, passages
from exitdeeds.plans import plan
from exitdeeds.rules import Rule
from exitdeeds.running import run
from exitdeeds.stores import shown
from exitdeeds.worlds import World, worlds
from tests.making import Maker, body_of, lines
from tests.texts import LOOP

RAISED, END = (("raise", "work"), ()), (("return", 0), ())
UNDONE = Rule(1, [(0, ("way", "undo", None, 0), -1)])


class Search:
    """All passages of the runs of at most so many answers, found by making these runs."""

    def __init__(self, body, rule, longest):
        self.chart, self.book, self.rule = plan(body), body.book, rule
        self.found, self.whole = set(), True
        self.go_on(0, self.chart.start, 0, [], longest)

    def go_on(self, row, stack, now, places, left):
        """A place is (row, state of the rule, number of the halves put until then)."""
        places = [*places, (row, now, len(stack))]
        ask, *pairs = self.chart.rows[row]
        if not pairs:
            self.take_off(stack, ask[1:], self.rule.next_state(now, ask), places, left)
        elif left == 0:
            self.whole = False
        else:
            for answer, (target, puts) in enumerate(pairs):
                self.go_on(target, stack + puts, self.rule.next_state(now, (*ask, answer)), places, left - 1)

    def take_off(self, stack, leaving, now, places, left):
        pending, store = leaving
        while True:
            while places and places[-1][2] == len(stack):
                row, before, _ = places[-1]
                self.found.add((row, before, (pending, store), now))
                places = places[:-1]
            if not stack:
                return
            if stack[-1][0] == state(pending):
                break
            stack = stack[:-1]
        if left == 0:
            self.whole = False
            return
        guard, step, argument, further = stack[-1]
        for answer in (0, 1):
            row = ("way", step, shown(argument, self.book, store), answer)
            more = tuple(all_halves(further)) if answer else ()
            following = after(pending, step, self.book[step], guard, answer)
            self.take_off(stack[:-1] + more, (following, store), self.rule.next_state(now, row), places, left - 1)


class PassageCase(unittest.TestCase):
    def check(self, text, rule, expected, *cells):
        body = body_of(text, *cells)
        self.assertEqual(passages(body, rule), expected)
        seen = Search(body, rule, 8)
        self.assertLessEqual(seen.found, set(expected))
        if seen.whole:
            self.assertEqual(seen.found, set(expected))

    def check_broken(self, text, rule, broken, *cells):
        body = body_of(text, *cells)
        self.assertIs(keeps(body, rule), not broken)
        world = breaking(body, rule)
        if broken:
            self.assertIsInstance(world, World)
            self.assertEqual(rule.reached(run(body, world)), -1)
        else:
            self.assertIsNone(world)
            for world in worlds(6):
                self.assertNotEqual(rule.reached(run(body, world)), -1)


class ExampleTest(PassageCase):
    def test_the_example(self):
        body = body_of(LOOP)
        self.assertEqual(UNDONE.reached(run(body, World.read("11100"))), -1)
        self.check_broken(LOOP, UNDONE, True)
        self.assertIs(keeps(body=body, rule=UNDONE), False)
        self.assertEqual(breaking(body=body, rule=UNDONE), breaking(body, UNDONE))

    def test_its_passages(self):
        undone, left = (("raise", "undo"), ()), (("return", 1), ())
        self.check(LOOP, UNDONE, [
            (0, 0, undone, -1), (0, 0, RAISED, 0), (0, 0, left, 0), (1, 0, left, 0),
            (2, 0, undone, -1), (2, 0, RAISED, 0), (2, 0, left, 0), (3, 0, RAISED, 0),
        ])
        self.assertEqual(passages(body=body_of(""), rule=UNDONE), [(0, 0, END, 0)])


class RowTest(PassageCase):
    """Rules that read rows of each form."""

    def test_tests_and_do_rows(self):
        rule = Rule(3, [(0, ("test", "a", 1), 1), (1, ("do", "work", None, 0), 2), (1, ("do", "work", None, 1), -1)])
        text = lines("if a", "end", "do work")
        self.check(text, rule, [
            (0, 0, RAISED, 0), (0, 0, RAISED, 2), (0, 0, END, -1), (0, 0, END, 0),
            (1, 0, RAISED, 0), (1, 0, END, 0), (1, 1, RAISED, 2), (1, 1, END, -1),
            (2, 0, RAISED, 0), (2, 2, RAISED, 2), (3, -1, END, -1), (3, 0, END, 0),
        ])
        self.check_broken(text, rule, True)
        self.check_broken(lines("if b", "end", "do work"), rule, False)
        self.check_broken(lines("if a", "end", "do work(1)"), rule, False)

    def test_out_rows(self):
        rule = Rule(2, [(0, ("out", ("return", 1), (1,)), 1)])
        text = lines("if a", "  set n 1", "end", "return 1")
        none, one = (("return", 1), (0,)), (("return", 1), (1,))
        self.check(text, rule, [(0, 0, none, 0), (0, 0, one, 1), (1, 0, none, 0), (2, 0, one, 1)], ("n", 2))
        self.check_broken(text, rule, False, ("n", 2))
        self.check_broken(text, Rule(1, [(0, ("out", ("return", 1), (1,)), -1)]), True, ("n", 2))
        self.check_broken(text, Rule(1, [(0, ("out", ("return", 0), (1,)), -1)]), False, ("n", 2))

    def test_way_rows(self):
        """What was put in front of a row is not taken off in its passages."""
        rule = Rule(3, [(0, ("way", "work", None, 1), 1), (1, ("way", "gain", None, 1), 2)])
        text = lines("put gain on done", "if a", "  put work on done", "end")
        self.check(text, rule, [
            (0, 0, RAISED, 0), (0, 0, END, 0), (0, 0, END, 1), (1, 0, END, 0),
        ])
        back = lines("if b", "end", "put gain on done", "if a", "  put work on done", "end")
        found = passages(body_of(back), rule)
        gained, failed = (("return", 8), ()), (("raise", "gain"), ())
        self.assertEqual([entry for entry in found if entry[0] == 0], [
            (0, 0, failed, 0), (0, 0, failed, 1), (0, 0, RAISED, 0), (0, 0, gained, 0), (0, 0, gained, 2),
        ])

    def test_the_argument_of_a_way_row_is_the_value_at_the_leaving(self):
        text = lines("if a", "  put work(late n) on done", "  set n 1", "end")
        zero, one, failed = (("return", 0), (0,)), (("return", 0), (1,)), (("raise", "work"), (1,))
        rule = Rule(2, [(0, ("way", "work", 1, 1), 1), (0, ("way", "work", 0, 1), -1)])
        self.check(text, rule, [(0, 0, failed, 0), (0, 0, zero, 0), (0, 0, one, 1), (1, 0, zero, 0), (2, 0, one, 0)], ("n", 2))

    def test_further_actions(self):
        text = lines("if a", "  put work on done [undo on done; gain on done]", "end")
        rule = Rule(4, [(0, ("way", "work", None, 1), 1), (1, ("way", "gain", None, 1), 2), (2, ("way", "undo", None, 1), 3)])
        undone, gained, failed = (("raise", "undo"), ()), (("return", 8), ()), (("raise", "gain"), ())
        self.check(text, rule, [
            (0, 0, failed, 1), (0, 0, undone, 2), (0, 0, RAISED, 0), (0, 0, END, 0), (0, 0, gained, 3), (1, 0, END, 0),
        ])

    def test_dropped_halves(self):
        text = lines("if a", "  put undo on error", "  put work on done", "end")
        self.check(text, UNDONE, [
            (0, 0, (("raise", "undo"), ()), -1), (0, 0, RAISED, 0), (0, 0, END, 0), (1, 0, END, 0),
        ])

    def test_end_rows_are_not_read(self):
        rule = Rule(2, [(0, ("end", ("return", 0)), 1), (0, ("end", ("raise", "work")), -1)])
        self.check("put work on done", rule, [(0, 0, END, 0)])
        self.check(lines("if a", "  put work on done", "end"), rule, [(0, 0, RAISED, 0), (0, 0, END, 0), (1, 0, END, 0)])

    def test_a_rule_that_is_broken_by_the_end_row_alone(self):
        rule = Rule(1, [(0, ("end", ("raise", "work")), -1)])
        self.check_broken("put work on done", rule, True)
        self.check_broken(lines("while a", "  put work on done", "end"), rule, True)
        self.check_broken(lines("put cure on done", "put work on done"), rule, True)
        self.check_broken(lines("put cure on always", "put work on done"), rule, False)
        self.check_broken(lines("put undo on error", "raise work"), rule, True)
        self.check_broken(lines("put away on always", "put undo on error", "leave x"), rule, False)
        self.check_broken("put undo on done", rule, False)
        self.assertEqual(breaking(body_of("put work on done"), rule).text, "0")

    def test_a_row_for_none(self):
        rule = Rule(2, [(0, None, 1), (1, None, -1)])
        self.check("do work", rule, [(0, 0, RAISED, -1), (0, 0, END, -1), (1, 1, RAISED, -1), (2, 1, END, -1)])
        # The out row and the end row are two rows.
        self.check_broken("", rule, True)
        self.check_broken("", Rule(3, [(0, None, 1), (1, None, 2), (2, None, -1)]), False)
        self.check_broken("do work", Rule(3, [(0, None, 1), (1, None, 2), (2, None, -1)]), True)

    def test_broken_at_the_start(self):
        rule = Rule(1, [(0, None, -1)])
        self.check("", rule, [(0, 0, END, -1)])
        self.check_broken("", rule, True)
        self.check(lines("while a", "end"), rule, [(0, -1, END, -1), (0, 0, END, -1), (1, -1, END, -1)])

    def test_without_moves(self):
        self.check_broken(LOOP, Rule(9, []), False)
        self.assertEqual({entry[1] for entry in passages(body_of(LOOP), Rule(9, []))}, {0})

    def test_a_loop_that_counts(self):
        """Three turns break the rule, and the way out tells the number of them."""
        rule = Rule(3, [(0, ("test", "a", 1), 1), (1, ("test", "a", 1), 2), (2, ("test", "a", 1), -1)])
        text = lines("while a", "  put work on done", "end")
        found = passages(body_of(text), rule)
        self.assertEqual([entry for entry in found if entry[0] == 0 and entry[1] == 2], [
            (0, 2, RAISED, -1), (0, 2, END, -1), (0, 2, END, 2),
        ])
        self.check_broken(text, rule, True)
        self.assertGreaterEqual(len(breaking(body_of(text), rule)), 3)

    def test_against_a_run(self):
        body = body_of(LOOP)
        for world in worlds(6):
            rows = run(body, world)
            if rows:
                other = breaking(body, Rule.against(rows))
                self.assertEqual(run(body, other)[:len(rows)], rows)
                changed = [*rows[:-1], ("test", "nothing", 0)]
                self.assertTrue(keeps(body, Rule.against(changed)))


class RandomTest(PassageCase):
    def rules(self):
        for seed in range(500):
            maker = Maker(seed)
            body = maker.body(maker.random.choice([1, 2, 3]))
            rows = [row for many in (2, 4, 6, 9, 12) for row in run(body, maker.world(many))]
            rows.extend([None, ("end", ("return", 0))])
            states = maker.random.randint(1, 4)
            moves = {}
            for _ in range(maker.random.randint(0, 8)):
                moves[(maker.random.randrange(states), maker.random.choice(rows))] = maker.random.randrange(-1, states)
            yield body, Rule(states, [(before, row, target) for (before, row), target in moves.items()])

    def test_passages_against_all_short_runs(self):
        many = 0
        for body, rule in self.rules():
            found = passages(body, rule)
            self.assertIsInstance(found, list)
            self.assertEqual(found, sorted(set(found)))
            seen = Search(body, rule, 8)
            self.assertLessEqual(seen.found, set(found))
            if seen.whole:
                self.assertEqual(seen.found, set(found))
                many += 1
        self.assertGreater(many, 300)

    def test_breaking_and_keeps(self):
        counts = {True: 0, False: 0}
        for body, rule in self.rules():
            broken = [world for world in worlds(5) if rule.reached(run(body, world)) == -1]
            world = breaking(body, rule)
            self.assertIs(keeps(body, rule), world is None)
            counts[world is None] += 1
            if world is None:
                self.assertEqual(broken, [])
            else:
                self.assertEqual(rule.reached(run(body, world)), -1)
        self.assertGreater(min(counts.values()), 100)

    def test_a_product_of_rules_is_kept_if_both_are(self):
        last = None
        for body, rule in self.rules():
            if last is not None:
                self.assertEqual(keeps(body, rule & last), keeps(body, rule) and keeps(body, last))
            last = rule

    def test_a_list_of_its_own(self):
        body = body_of(LOOP)
        passages(body, UNDONE).clear()
        self.assertEqual(len(passages(body, UNDONE)), 8)


if __name__ == "__main__":
    unittest.main()
