"""Piles: a stack of deferred actions as an object."""

from exitdeeds.actions import check_action, halves, reads_now, settled
from exitdeeds.books import Book
from exitdeeds.errors import BadAction, BadNumber, NoAnswer, OtherBook, TooLarge
from exitdeeds.ways import way_out
from exitdeeds.worlds import World

FIRST_LIMIT = 100
GREATEST_LIMIT = 999


class Pile:
    """The halves of actions over a book, the lowest first.

    The tuple of the halves is never changed, only replaced as a whole, when
    nothing can be refused any more.
    """

    def __init__(self, book):
        # The union with an empty book is a copy.
        self._book = book | Book()
        self._halves = ()
        self._limit = FIRST_LIMIT

    def put(self, *actions, store):
        """Put the halves of all the actions, as a put statement does with this store."""
        for action in actions:
            check_action(self._book, action)
        more = []
        for action in actions:
            more.extend(settled(action, self._book, store))
        self._put_halves(more)

    def _put_halves(self, more):
        if len(self._halves) + len(more) > self._limit:
            raise TooLarge(self._limit)
        self._halves = (*self._halves, *more)

    def change_limit(self, value):
        """Set the limit; it is never less than the number of halves."""
        if not len(self._halves) <= value <= GREATEST_LIMIT:
            raise BadNumber(value)
        self._limit = value

    @property
    def limit(self):
        """The number of halves that the pile can hold."""
        return self._limit

    @limit.setter
    def limit(self, value):
        self.change_limit(value)

    def unwind(self, pending, store, world):
        """Run the way out of the leaving (pending, store), and return (rows, exit, rest)."""
        stack = list(self._halves)
        self._halves = ()
        rows, pending, half = way_out(self._book, stack, (pending, store), world.answers)
        if half is not None:
            raise NoAnswer(rows)
        return rows, pending, World(world.answers[len(rows):])

    def cut(self, at):
        """Take the halves from the index `at` on off the pile, and return a new pile of them."""
        if not 0 <= at <= len(self._halves):
            raise BadNumber(at)
        upper = Pile(self._book)
        upper._halves = self._halves[at:]
        upper._limit = self._limit
        self._halves = self._halves[:at]
        return upper

    def lay(self, other):
        """Put the halves of another pile, or of this one, on top of the pile."""
        if self._book != other._book:
            raise OtherBook()
        self._put_halves(other._halves)

    def __iadd__(self, action):
        check_action(self._book, action)
        if reads_now(action):
            raise BadAction(action)
        self._put_halves(halves(action))
        return self

    def __len__(self):
        return len(self._halves)

    def __iter__(self):
        return iter(self._halves)
