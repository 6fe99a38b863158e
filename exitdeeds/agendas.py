"""Sets of agendas, also infinite ones."""

from exitdeeds.errors import BadNumber
from exitdeeds.machines import can_go_round, combined, machine_of, spelled, target_of
from exitdeeds.ordering import ascending
from exitdeeds.writing import write_action

LONGEST = 4


class Agendas:
    """A set of words, held as the least machine that reads them from their ends.

    `rows` is that machine; it reads the texts of actions. `actions` is a dict
    of the actions by their texts. Two sets are equal exactly if their least
    machines are.
    """

    def __init__(self, rows, actions):
        self._rows = rows
        self._actions = actions

    @classmethod
    def of(cls, *words):
        """Return the set of these words."""
        actions = {write_action(action): action for word in words for action in word}
        return cls(machine_of([tuple([write_action(action) for action in word]) for word in words]), actions)

    @property
    def finite(self):
        """Whether the set is finite."""
        return not can_go_round(self._rows)

    @property
    def size(self):
        """The number of the different non-empty sets that are left when actions are read off the ends."""
        return len(self._rows)

    def words(self, longest):
        """Yield the words of at most `longest` actions, the shorter ones first."""
        if not 0 <= longest <= LONGEST:
            raise BadNumber(longest)
        for length in range(longest + 1):
            for texts in ascending(spelled(self._rows, length)):
                yield tuple([self._actions[text] for text in texts])

    def __contains__(self, word):
        row = 0
        for action in word[::-1]:
            row = target_of(self._rows, row, write_action(action))
        return 0 <= row < len(self._rows) and self._rows[row][0]

    def __or__(self, other):
        return together(self, other, ((True, False), (False, True), (True, True)))

    def __and__(self, other):
        return together(self, other, ((True, True),))

    def __sub__(self, other):
        return together(self, other, ((True, False),))

    def __xor__(self, other):
        return together(self, other, ((True, False), (False, True)))

    def __eq__(self, other):
        return isinstance(other, Agendas) and self._rows == other._rows

    def __bool__(self):
        return bool(self._rows)


def together(first, second, wanted):
    """Return the set of the words for which the truths, whether each set has it, are a wanted pair."""
    return Agendas(combined(first._rows, second._rows, wanted), {**first._actions, **second._actions})
