"""Worlds: rows of answers, and their order."""

from exitdeeds.errors import BadNumber, BadWorld

DIGITS = "01"
LONGEST = 10


class World:
    """The answers to all questions, the first one first."""

    def __init__(self, answers):
        for at, answer in enumerate(answers):
            if answer not in (0, 1):
                raise BadWorld(at)
        self.answers = tuple(answers)

    @classmethod
    def read(cls, text):
        """Return the world of a text of digits."""
        # Any other character is found at -1, which is no answer.
        return cls([DIGITS.find(digit) for digit in text])

    @property
    def text(self):
        """The string of the digits."""
        return "".join([DIGITS[answer] for answer in self.answers])

    def __len__(self):
        return len(self.answers)

    def __iter__(self):
        return iter(self.answers)

    def __add__(self, other):
        return World(self.answers + other.answers)

    def __eq__(self, other):
        if not isinstance(other, World):
            return NotImplemented
        return (len(self.answers), self.answers) == (len(other.answers), other.answers)

    def __lt__(self, other):
        if not isinstance(other, World):
            return NotImplemented
        return (len(self.answers), self.answers) < (len(other.answers), other.answers)

    def __le__(self, other):
        if not isinstance(other, World):
            return NotImplemented
        return (len(self.answers), self.answers) <= (len(other.answers), other.answers)

    def __gt__(self, other):
        if not isinstance(other, World):
            return NotImplemented
        return (len(self.answers), self.answers) > (len(other.answers), other.answers)

    def __ge__(self, other):
        if not isinstance(other, World):
            return NotImplemented
        return (len(self.answers), self.answers) >= (len(other.answers), other.answers)


def worlds(longest):
    """Yield all worlds of at most `longest` answers in ascending order."""
    if not 0 <= longest <= LONGEST:
        raise BadNumber(longest)
    rows = [()]
    yield World(())
    for _ in range(longest):
        # Longer rows are kept in the order of their beginnings, so they ascend too.
        rows = [(*row, answer) for row in rows for answer in (0, 1)]
        for row in rows:
            yield World(row)
