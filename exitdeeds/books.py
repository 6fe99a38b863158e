"""Books: the steps and the cells that bodies are written over."""

from exitdeeds.errors import BadKind, BadNumber, Clash, TooLarge, UnknownStep
from exitdeeds.names import check_name, check_number

KINDS_WITH_NUMBER = ("answer", "heal")
KINDS_WITH_NAME = ("jump", "swap")
CELL_SIZES = (2, 3)


def check_kind(kind):
    """Raise BadKind, BadNumber or BadName if this is no step kind."""
    if kind == ("plain",):
        return
    if len(kind) != 2 or kind[0] not in KINDS_WITH_NUMBER + KINDS_WITH_NAME:
        raise BadKind(kind)
    if kind[0] in KINDS_WITH_NUMBER:
        check_number(kind[1])
    else:
        check_name(kind[1])


def at_most(entries, most):
    """Return the entries; raise TooLarge(most) if they are more than that."""
    if len(entries) > most:
        raise TooLarge(most)
    return entries


def with_step(steps, name, kind):
    """Return new steps in which the name has the kind, in its old place or at the end."""
    check_name(name)
    check_kind(kind)
    return at_most({**steps, name: kind}, Book.STEPS)


def check_clashes(first, second):
    """Raise Clash for a step or a cell that the two books have in different forms."""
    for name in second:
        if name in first and first[name] != second[name]:
            raise Clash(name)
    sizes = dict(first.cells)
    for name, size in second.cells:
        if sizes.get(name, size) != size:
            raise Clash(name)


class Book:
    """Steps with their kinds, in the order in which they were first set, and cells.

    The two dicts are never changed, only replaced as a whole: so a call that is
    refused leaves the book as it was, and no two books can affect each other.
    """

    STEPS = 12
    CELLS = 2

    def __init__(self):
        self._steps = {}
        self._sizes = {}

    # A step may be called `cls` or `self`. So the first parameters of `of` and
    # `define` have names with an underscore, which no step can have.
    @classmethod
    def of(_cls, *cells, **kinds):
        """Return a book with the cells, which are pairs (name, size), and the steps."""
        book = _cls()
        for name, size in cells:
            book.add_cell(name, size)
        book.define(**kinds)
        return book

    def define(_self, **kinds):
        """Set all the steps, or none if one of them is refused."""
        steps = _self._steps
        for name, kind in kinds.items():
            steps = with_step(steps, name, kind)
        _self._steps = steps

    def add_cell(self, name, size):
        """Add a new cell of size 2 or 3."""
        check_name(name)
        if size not in CELL_SIZES:
            raise BadNumber(size)
        if name in self._sizes:
            raise Clash(name)
        self._sizes = at_most({**self._sizes, name: size}, Book.CELLS)

    @property
    def cells(self):
        """The tuple of the pairs (name, size), in ascending order of the names."""
        return tuple([(name, self._sizes[name]) for name in sorted(self._sizes, key=str)])

    @property
    def stores(self):
        """The number of stores."""
        count = 1
        for size in self._sizes.values():
            count = count * size
        return count

    def __setitem__(self, name, kind):
        self._steps = with_step(self._steps, name, kind)

    def __getitem__(self, name):
        if name not in self._steps:
            raise UnknownStep(name)
        return self._steps[name]

    def __contains__(self, name):
        return name in self._steps

    def __len__(self):
        return len(self._steps)

    def __iter__(self):
        return iter(self._steps)

    def __or__(self, other):
        check_clashes(self, other)
        union = Book()
        union._steps = at_most({**self._steps, **other._steps}, Book.STEPS)
        union._sizes = at_most({**self._sizes, **other._sizes}, Book.CELLS)
        return union

    def __ior__(self, other):
        union = self | other
        self._steps = union._steps
        self._sizes = union._sizes
        return self

    def __eq__(self, other):
        return isinstance(other, Book) and self._steps == other._steps and self._sizes == other._sizes
