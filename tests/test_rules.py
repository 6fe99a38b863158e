import random
import unittest

from exitdeeds.errors import BadMove, BadNumber, DeedError, TooLarge
from exitdeeds.rules import Rule
from exitdeeds.running import run
from exitdeeds.worlds import World
from tests.making import Maker, body_of
from tests.texts import LOOP

ASK, DO, WAY = ("test", "a", 1), ("do", "work", None, 0), ("way", "undo", 3, 1)
OUT, END = ("out", ("raise", "work"), (0, 1)), ("end", ("return", 8))
ROWS = (ASK, DO, WAY, OUT, END)


class RuleCase(unittest.TestCase):
    def refused(self, error, call, *arguments):
        with self.assertRaises(error) as caught:
            call(*arguments)
        self.assertIsInstance(caught.exception, DeedError)
        return caught.exception


class MoveTest(RuleCase):
    def test_without_moves(self):
        for states in (1, 2, 99):
            for moves in ([], ()):
                rule = Rule(states=states, moves=moves)
                self.assertEqual(rule.states, states)
                for row in ROWS:
                    for before in (-1, 0, states - 1):
                        self.assertEqual(rule.next_state(before, row), before)

    def test_a_move_for_a_row(self):
        for row in ROWS:
            rule = Rule(3, [(1, row, 2)])
            for other in ROWS:
                self.assertEqual(rule.next_state(before=1, row=other), 2 if other == row else 1)
                self.assertEqual(rule.next_state(0, other), 0)
                self.assertEqual(rule.next_state(2, other), 2)

    def test_a_row_has_to_be_equal(self):
        rule = Rule(2, [(0, ("do", "work", None, 0), 1), (0, OUT, 1)])
        for row in (("do", "work", None, 1), ("do", "work", 0, 0), ("do", "undo", None, 0), ("way", "work", None, 0),
                    ("out", ("raise", "work"), (0, 0)), ("out", ("leave", "work"), (0, 1)), ("end", ("raise", "work"))):
            self.assertEqual(rule.next_state(0, row), 0)

    def test_a_move_for_none(self):
        rule = Rule(2, [(0, None, 1)])
        for row in ROWS:
            self.assertEqual(rule.next_state(0, row), 1)
            self.assertEqual(rule.next_state(1, row), 1)

    def test_both_in_one_state(self):
        for moves in ([(0, ASK, 2), (0, None, 1)], [(0, None, 1), (0, ASK, 2)], [(0, None, 1), (0, ASK, 2), (1, ASK, 0)]):
            rule = Rule(3, moves)
            self.assertEqual(rule.next_state(0, ASK), 2)
            self.assertEqual(rule.next_state(0, DO), 1)
        # A move that stays where it is goes before the one for None.
        rule = Rule(2, [(0, None, 1), (0, WAY, 0)])
        self.assertEqual([rule.next_state(0, row) for row in ROWS], [1, 1, 0, 1, 1])

    def test_a_broken_rule(self):
        rule = Rule(2, [(0, ASK, -1), (0, None, 1), (1, None, -1)])
        self.assertEqual(rule.next_state(0, ASK), -1)
        self.assertEqual(rule.next_state(1, DO), -1)
        for row in ROWS:
            self.assertEqual(rule.next_state(-1, row), -1)

    def test_reached(self):
        rule = Rule(3, [(0, ASK, 1), (1, DO, 2), (2, ASK, -1), (2, WAY, 0)])
        for kind in (list, tuple):
            for rows, last in (([], 0), ([ASK], 1), ([DO], 0), ([ASK, ASK, DO], 2), ([ASK, DO, WAY], 0),
                               ([ASK, DO, ASK], -1), ([ASK, DO, ASK, WAY, END], -1)):
                self.assertEqual(rule.reached(kind(rows)), last)
        self.assertEqual(rule.reached(rows=[ASK]), 1)

    def test_reached_by_a_run(self):
        rule = Rule(1, [(0, ("way", "undo", None, 0), -1)])
        body = body_of(LOOP)
        self.assertEqual(rule.reached(run(body, World.read("11101"))), 0)
        self.assertEqual(rule.reached(run(body, World.read("11100"))), -1)

    def test_moves_are_copied(self):
        moves = [(0, ASK, 1)]
        rule = Rule(2, moves)
        moves.append((0, DO, 1))
        moves[0] = (0, ASK, -1)
        self.assertEqual([rule.next_state(0, row) for row in ROWS], [1, 0, 0, 0, 0])


class ErrorTest(RuleCase):
    def test_numbers_of_states(self):
        self.assertEqual(Rule.STATES, 99)
        for states in (1, 99):
            Rule(states, [(states - 1, None, states - 1)])
        for states in (0, 100, -1, 1000):
            self.assertEqual(self.refused(BadNumber, Rule, states, []).number, states)
            # The number comes before the moves.
            self.assertEqual(self.refused(BadNumber, Rule, states, [(-5, ASK, -5)]).number, states)

    def test_wrong_moves(self):
        right = (0, ASK, 1)
        for move in ((-1, DO, 0), (3, DO, 0), (0, DO, 3), (0, DO, -2), (0, ASK, 1), (0, ASK, 2), (5, None, 0), (0, None, 9)):
            self.assertEqual(self.refused(BadMove, Rule, 3, [right, move]).at, 1)
            self.assertEqual(self.refused(BadMove, Rule, 3, (right, (1, ASK, 1), move, right)).at, 2)
        self.assertEqual(self.refused(BadMove, Rule, 1, [(0, None, 0), (0, None, -1)]).at, 1)

    def test_the_first_wrong_move(self):
        self.assertEqual(self.refused(BadMove, Rule, 2, [(0, ASK, 2), (7, ASK, 0)]).at, 0)
        self.assertEqual(self.refused(BadMove, Rule, 2, [(0, ASK, 1), (1, ASK, 1), (0, ASK, 0), (0, ASK, 2)]).at, 2)

    def test_right_moves(self):
        Rule(2, [(0, ASK, -1), (0, DO, 0), (0, None, 1), (1, ASK, -1), (1, None, 0)])


class AndTest(RuleCase):
    def side_by_side(self, first, second, logs):
        both = first & second
        self.assertIsInstance(both, Rule)
        self.assertEqual(both.states, first.states * second.states)
        for log in logs:
            left = right = place = 0
            for row in log:
                before = place
                left, right, place = first.next_state(left, row), second.next_state(right, row), both.next_state(place, row)
                if before == -1 or -1 in (left, right):
                    self.assertEqual(place, -1)
                else:
                    self.assertEqual(place, left * second.states + right)
            self.assertEqual(both.reached(log), place)

    def rule(self, dice, most):
        states = dice.randint(1, most)
        moves = {(dice.randrange(states), dice.choice([None, *ROWS])): dice.randrange(-1, states) for _ in range(dice.randint(0, 9))}
        return Rule(states, [(before, row, target) for (before, row), target in moves.items()])

    def test_random_rules(self):
        dice = random.Random(1)
        for _ in range(150):
            logs = [[dice.choice(ROWS) for _ in range(dice.randint(0, 8))] for _ in range(20)]
            first, second = self.rule(dice, 5), self.rule(dice, 5)
            self.side_by_side(first, second, logs)
            self.side_by_side(second, first, logs)
            self.side_by_side(first & second, self.rule(dice, 3), logs)

    def test_with_itself(self):
        rule = Rule(2, [(0, ASK, 1), (1, ASK, -1)])
        both = rule & rule
        self.assertEqual([both.reached([ASK] * many) for many in range(4)], [0, 3, -1, -1])
        self.assertEqual(rule.states, 2)

    def test_runs(self):
        first = Rule(1, [(0, ("way", "undo", None, 0), -1)])
        second = Rule(2, [(0, ("test", "more", 1), 1), (1, ("test", "more", 1), 0), (1, None, 1)])
        body = body_of(LOOP)
        self.side_by_side(first, second, [run(body, Maker(seed).world(12)) for seed in range(60)])

    def test_the_bound(self):
        for one, two in ((9, 11), (11, 9), (99, 1), (1, 99), (3, 33)):
            first = Rule(one, [(at, ASK, at + 1) for at in range(one - 1)])
            second = Rule(two, [(at, DO, at + 1) for at in range(two - 1)] + [(two - 1, DO, -1)])
            self.assertEqual((first & second).states, 99)
            self.side_by_side(first, second, [[ASK, DO] * 100, [DO] * (two - 1) + [ASK] * 99])
        for one, two in ((10, 10), (50, 2), (99, 2), (2, 50), (99, 99)):
            self.assertEqual(self.refused(TooLarge, lambda: Rule(one, []) & Rule(two, [])).most, 99)


class AgainstTest(RuleCase):
    def test_one_row(self):
        for rows in ([ASK], (ASK,)):
            rule = Rule.against(rows)
            self.assertIsInstance(rule, Rule)
            self.assertEqual(rule.states, 2)
            self.assertEqual([rule.reached(log) for log in ([], [ASK], [DO], [ASK, DO], [DO, ASK])], [0, -1, 1, -1, 1])

    def test_rows_that_stand_twice(self):
        rows = [ASK, ASK, DO, ASK]
        rule = Rule.against(rows=rows)
        self.assertEqual(rule.states, 5)
        self.assertEqual([rule.reached(rows[:many]) for many in range(5)], [0, 1, 2, 3, -1])
        for log in ([DO], [ASK, DO], [ASK, ASK, ASK], [ASK, ASK, DO, DO], [ASK, ASK, DO, END, ASK]):
            self.assertEqual(rule.reached(log), 4)
            self.assertEqual(rule.reached([*log, *rows, *rows]), 4)
        self.assertEqual(rule.reached([*rows, DO, END]), -1)

    def test_bounds(self):
        for many in (1, 2, 97, 98):
            rule = Rule.against([DO] * many)
            self.assertEqual(rule.states, many + 1)
            self.assertEqual(rule.reached([DO] * (many - 1)), many - 1)
            self.assertEqual(rule.reached([DO] * many), -1)
            self.assertEqual(rule.reached([DO] * (many - 1) + [ASK, DO]), many)
        for rows in ([], ()):
            self.assertEqual(self.refused(BadNumber, Rule.against, rows).number, 0)
        for many in (99, 100, 500):
            self.assertEqual(self.refused(TooLarge, Rule.against, [DO] * many).most, 99)

    def test_broken_by_exactly_the_logs_that_begin_so(self):
        body = body_of(LOOP)
        logs = [run(body, Maker(seed).world(seed % 8)) for seed in range(60)]
        for rows in logs:
            if rows:
                rule = Rule.against(rows)
                for log in logs:
                    self.assertEqual(rule.reached(log) == -1, log[:len(rows)] == rows)

    def test_rows_are_copied(self):
        rows = [ASK, DO]
        rule = Rule.against(rows)
        rows.clear()
        self.assertEqual(rule.reached([ASK, DO]), -1)


if __name__ == "__main__":
    unittest.main()
