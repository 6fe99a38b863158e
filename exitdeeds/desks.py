"""Desks: bodies over one book, by name."""

from exitdeeds.books import Book
from exitdeeds.errors import BadText, DeedError, NoBody, OtherBook
from exitdeeds.names import check_name
from exitdeeds.pairs import alike
from exitdeeds.reading import read


class Desk:
    """Bodies over one book, by name, in the order in which the names were first set.

    The dict of the bodies is never changed, only replaced as a whole.
    """

    def __init__(self, book):
        # The union with an empty book is a copy.
        self._book = book | Book()
        self._bodies = {}
        self.reading = None

    def __setitem__(self, name, body):
        check_name(name)
        if body.book != self._book:
            raise OtherBook()
        self._bodies = {**self._bodies, name: body}

    def __getitem__(self, name):
        if name not in self._bodies:
            raise NoBody(name)
        return self._bodies[name]

    def __contains__(self, name):
        return name in self._bodies

    def __len__(self):
        return len(self._bodies)

    def __iter__(self):
        return iter(self._bodies)

    # A body may be called `self`. So the first parameter has a name with an
    # underscore, which no body can have.
    def load(_self, **texts):
        """Set the bodies of all the texts, or none if one of them is refused."""
        for name in texts:
            check_name(name)
        bodies = {}
        for name, text in texts.items():
            bodies[name] = _self._read_one(name, text)
        _self._bodies = {**_self._bodies, **bodies}

    def _read_one(self, name, text):
        self.reading = name
        try:
            return read(self._book, text)
        except DeedError as e:
            raise BadText(name) from e
        finally:
            self.reading = None

    def classes(self):
        """Yield the classes of alike bodies as tuples of names, the lower names first."""
        found = {}
        for name in sorted(self._bodies, key=str):
            first = self._first_alike(name, list(found))
            found.setdefault(first, []).append(name)
        for names in found.values():
            yield tuple(names)

    def _first_alike(self, name, firsts):
        for first in firsts:
            if alike(self._bodies[first], self._bodies[name]):
                return first
        return name
