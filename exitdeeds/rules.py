"""Rules: they read the rows of a run, one after the other, and can be broken by them."""

from exitdeeds.errors import BadMove, BadNumber, TooLarge

BROKEN = -1


class Rule:
    """States from 0 on, and moves between them.

    `_targets` is a dict of the targets of the moves by the pairs (before, row).
    """

    STATES = 99

    def __init__(self, states, moves):
        if not 1 <= states <= Rule.STATES:
            raise BadNumber(states)
        targets = {}
        for at, (before, row, target) in enumerate(moves):
            if not 0 <= before < states or not BROKEN <= target < states or (before, row) in targets:
                raise BadMove(at)
            targets[(before, row)] = target
        self.states = states
        self._targets = targets

    @classmethod
    def against(cls, rows):
        """Return the rule that is broken by exactly those logs that begin with these rows."""
        many = len(rows)
        if many == 0:
            raise BadNumber(many)
        if many + 1 > Rule.STATES:
            raise TooLarge(Rule.STATES)
        moves = []
        for at, row in enumerate(rows):
            moves.append((at, row, BROKEN if at + 1 == many else at + 1))
            moves.append((at, None, many))
        return cls(many + 1, moves)

    def next_state(self, before, row):
        """Return the state behind one row."""
        # A broken rule has no moves, so it stays as it is.
        return self._targets.get((before, row), self._targets.get((before, None), before))

    def reached(self, rows):
        """Return the state behind the rows of a log."""
        now = 0
        for row in rows:
            now = self.next_state(now, row)
        return now

    def __and__(self, other):
        many = self.states * other.states
        if many > Rule.STATES:
            raise TooLarge(Rule.STATES)
        return Rule(many, joint_moves(self, other))


def joint_moves(first, second):
    """Return the list of the moves of the rule that is broken as soon as one of the two is."""
    rows = {row: True for _, row in [*first._targets, *second._targets] if row is not None}
    moves = []
    for left in range(first.states):
        for right in range(second.states):
            # A move for None stands for the rows for which neither rule has a move of its own.
            for row in [None, *rows]:
                following = (first.next_state(left, row), second.next_state(right, row))
                moves.append((left * second.states + right, row, joint_state(following, second.states)))
    return moves


def joint_state(pair, many):
    """Return the state that stands for a pair of states; the second rule has this many."""
    left, right = pair
    return BROKEN if BROKEN in pair else left * many + right
