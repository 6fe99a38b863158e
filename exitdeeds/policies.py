"""Policies: how the winning side of a game over a body answers."""

from exitdeeds.errors import Finished, OtherSide
from exitdeeds.exits import after
from exitdeeds.games import positions_of, ranks_of
from exitdeeds.plans import plan
from exitdeeds.running import inside
from exitdeeds.showing import ways_through
from exitdeeds.ways import way_out


class Policy:
    """The answers of the winning side of a game.

    `wins` tells whether this is the first side. `most` is the least number of
    questions before the body leaves with which the first side always does it.
    """

    def __init__(self, body, tests, exits):
        self._body = body
        self._tests = list(tests)
        self._exits = list(exits)
        chart = plan(body)
        self._following = positions_of(chart, self._exits, body.book)
        self._start = list(self._following)[0]
        won = [place for place in self._following if leaves_well(chart.rows[place[0]][0], place[1])]
        own = {place: True for place in self._following if asks_first(chart.rows[place[0]][0], self._tests)}
        self._ranks = ranks_of(self._following, won, own)
        self.most = self._ranks.get(self._start)
        self.wins = self.most is not None

    def answer(self, world):
        """Return the answer of the winning side to the next question of the run for the world."""
        rows, stack, left, store, ask = inside(self._body, world.answers)
        if left is None:
            if asks_first(ask, self._tests) != self.wins:
                raise OtherSide()
            return self._answer_behind(world.answers)
        book = self._body.book
        _, pending, half = way_out(book, stack, (left, store), world.answers[len(rows):])
        if half is None:
            raise Finished()
        if self.wins:
            raise OtherSide()
        return spoiling(half, pending, stack, self._exits, book)

    def _answer_behind(self, answers):
        place = self._start
        for answer in answers:
            place = self._following[place][answer]
        # Each lower rank has a position too, so all ranks are less than their number.
        never = len(self._ranks)
        no, yes = [self._ranks.get(other, never) for other in self._following[place]]
        better = yes < no if self.wins else yes > no
        return 1 if better else 0


def policy(body, tests, exits):
    """Return the policy of the game over the body in which the first side answers these tests."""
    return Policy(body, tests, exits)


def leaves_well(ask, good):
    """Whether this first part of a row leaves by one of the good exits."""
    return ask[0] == "out" and ask[1] in good


def asks_first(ask, tests):
    """Whether the first side answers this question."""
    return ask[0] == "test" and ask[1] in tests


def spoiling(half, pending, stack, exits, book):
    """Return the answer by which the second side keeps the exits from showing, if there is one.

    `half` is the one that is asked, and the stack is what lies below it.
    """
    guard, step = half[:2]
    failed = after(pending, step, book[step], guard, 0)
    if all([left in exits for left in ways_through(stack, failed, book)]):
        return 1
    return 0
