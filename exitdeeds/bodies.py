"""Bodies: small programs that put deferred actions on a stack."""

from exitdeeds.actions import with_further
from exitdeeds.books import Book
from exitdeeds.errors import BadNumber, BadStatement, OtherBook, TooLarge
from exitdeeds.running import run
from exitdeeds.statements import blocks_of, check_parts, form_of

MOST_TIMES = 9


def checked(book, block, depth):
    """Check the statements of a block of this depth; return all of them in reading order."""
    found = []
    for statement in block:
        if form_of(statement) == () or depth > Body.DEPTH:
            raise BadStatement(statement)
        check_parts(book, statement)
        found.append(statement)
        for inner in blocks_of(statement):
            found.extend(checked(book, inner, depth + 1))
    return found


class Body:
    """Statements over a book."""

    STATEMENTS = 24
    DEPTH = 4
    SIZE = 120

    def __init__(self, book, statements):
        # The union with an empty book is a copy.
        self.book = book | Book()
        self.statements = tuple(statements)
        self._listed = checked(self.book, self.statements, 0)
        if len(self._listed) > Body.STATEMENTS:
            raise TooLarge(Body.STATEMENTS)
        if (len(self._listed) + 1) * self.book.stores > Body.SIZE:
            raise TooLarge(Body.SIZE)

    def actions(self):
        """Return the list of all actions, in the order of their numbers."""
        found = []
        for statement in self._listed:
            if statement[0] == "put":
                found.extend(with_further(statement[1]))
        return found

    def __add__(self, other):
        if self.book != other.book:
            raise OtherBook()
        return Body(self.book, self.statements + other.statements)

    def __mul__(self, count):
        if not 0 <= count <= MOST_TIMES:
            raise BadNumber(count)
        return Body(self.book, self.statements * count)

    def __rmul__(self, count):
        return self * count

    def __len__(self):
        return len(self._listed)

    def __call__(self, world):
        return run(self, world)

    def __eq__(self, other):
        return isinstance(other, Body) and self.book == other.book and self.statements == other.statements
