"""Cells and their values: a store has one value for each cell of the book."""

from exitdeeds.errors import UnknownCell


def check_cell(cell, book):
    """Raise UnknownCell if the book does not have the cell."""
    if cell not in dict(book.cells):
        raise UnknownCell(cell)


def size_of(cell, book):
    """Return the size of a cell that the book has."""
    return dict(book.cells)[cell]


def place_of(cell, book):
    """Return the index of the value of the cell in a store."""
    return list(dict(book.cells)).index(cell)


def first_store(book):
    """Return the store in which all values are 0."""
    return (0,) * len(book.cells)


def value_of(cell, book, store):
    """Return the value of the cell of the book in the store."""
    return store[place_of(cell, book)]


def with_value(cell, value, book, store):
    """Return the store in which the cell has the value, and all else stays."""
    place = place_of(cell, book)
    return (*store[:place], value, *store[place + 1:])


def shown(argument, book, store):
    """Return the argument as a row shows it: the value of the cell if it names one."""
    if isinstance(argument, tuple):
        return value_of(argument[1], book, store)
    return argument
