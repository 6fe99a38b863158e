"""Reading: the body of a text."""

from exitdeeds.bodies import Body
from exitdeeds.errors import BadLine, DeedError
from exitdeeds.lines import WrongForm, statement_in
from exitdeeds.statements import blocks_of, check_parts


def read(book, text):
    """Return the body over the book whose text it is; raise BadLine for the first wrong line."""
    lines = text.split("\n") if text else []
    # Each open statement is a list of its first line's statement and of its
    # blocks so far; the first entry stands for the body.
    opened = [[None, []]]
    for place, line in enumerate(lines):
        read_line(book, opened, line.lstrip(" "), place + 1)
    if len(opened) > 1:
        raise BadLine(len(lines) + 1)
    return Body(book, opened[0][1])


def read_line(book, opened, line, number):
    """Add what this line says to the innermost open statement."""
    if line == "else":
        begin_else(opened, number)
    elif line == "end":
        close(opened, number)
    else:
        begin(book, opened, line, number)


def begin_else(opened, number):
    """Begin the second block of the innermost open statement."""
    head, *blocks = opened[-1]
    if head is None or len(blocks) == len(blocks_of(head)):
        raise BadLine(number)
    opened[-1].append([])


def close(opened, number):
    """Close the innermost open statement, and add it to the block in which it stands."""
    head, *blocks = opened[-1]
    if head is None:
        raise BadLine(number)
    opened.pop()
    many = len(blocks_of(head))
    full = [tuple(block) for block in [*blocks, ()][:many]]
    opened[-1][-1].append((*head[:len(head) - many], *full))


def begin(book, opened, line, number):
    """Add a statement to the innermost block, or open it if it has blocks."""
    statement = form_checked(opened, line, number)
    try:
        check_parts(book, statement)
    except DeedError as e:
        raise BadLine(number) from e
    if blocks_of(statement):
        opened.append([statement, []])
    else:
        opened[-1][-1].append(statement)


def form_checked(opened, line, number):
    """Return the statement of a line; raise BadLine if it has no right form, or lies too deep."""
    if len(opened) > Body.DEPTH + 1:
        raise BadLine(number)
    try:
        return statement_in(line)
    except WrongForm:
        raise BadLine(number) from None
