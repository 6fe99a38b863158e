"""Statements: their forms, the checks of their parts, and their blocks."""

from exitdeeds.actions import check_action
from exitdeeds.errors import BadNumber, BadStatement, UnknownStep
from exitdeeds.names import check_name, check_number
from exitdeeds.stores import check_cell, size_of

# Each form is the word of the statement, followed by what its other parts are.
FORMS = (
    ("do", "step", "argument"),
    ("put", "action"),
    ("set", "cell", "content"),
    ("if", "name", "block", "block"),
    ("while", "name", "block"),
    ("when", "cell", "content", "block", "block"),
    ("return", "result"),
    ("leave", "name"),
    ("raise", "name"),
)


def form_of(statement):
    """Return the form with the word and the length of the statement, or () if there is none."""
    for form in FORMS:
        if len(form) == len(statement) and form[0] == statement[0]:
            return form
    return ()


def blocks_of(statement):
    """Return the list of the blocks of a statement that has a form."""
    return [part for kind, part in zip(form_of(statement), statement) if kind == "block"]


def check_parts(book, statement):
    """Check the parts of a statement that has a form from left to right, its blocks excepted."""
    for kind, part in zip(form_of(statement), statement):
        if kind == "step" and part not in book:
            raise UnknownStep(part)
        if kind == "cell":
            check_cell(part, book)
        if kind == "name":
            check_name(part)
        if kind == "action":
            check_action(book, part)
        if kind == "content" and not 0 <= part < size_of(statement[1], book):
            raise BadNumber(part)
        if kind == "result" or (kind == "argument" and part is not None):
            check_worth(book, statement, part)


def check_worth(book, statement, worth):
    """Check a part of the statement that is a number or ("now", cell)."""
    if not isinstance(worth, tuple):
        check_number(worth)
        return
    if worth[:1] != ("now",):
        raise BadStatement(statement)
    check_cell(worth[1], book)
