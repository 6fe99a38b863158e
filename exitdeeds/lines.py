"""The lines of a text: what each one says, if its form is right.

Whether the book has the steps and the cells is not looked at here.
"""

from exitdeeds.actions import GREATEST_DEPTH, GUARDS
from exitdeeds.errors import DeedError
from exitdeeds.names import is_name

DIGITS = "0123456789"
MOST_DIGITS = 3
LATE = "late "


class WrongForm(DeedError):
    """A text does not have the form of a line, or of the part that stands in its place."""


def statement_in(line):
    """Return the statement that begins on this line, with empty blocks."""
    word, _, rest = line.partition(" ")
    if word == "put":
        return (word, action_in(rest, 0))
    if word in ("do", "set", "when"):
        return statement_with_two_parts(word, rest)
    if word == "if":
        return (word, name_in(rest), (), ())
    if word == "while":
        return (word, name_in(rest), ())
    if word in ("leave", "raise"):
        return (word, name_in(rest))
    if word == "return":
        return (word, early_argument_in(rest))
    raise WrongForm()


def statement_with_two_parts(word, text):
    """Return the statement of a `do`, `set` or `when` line."""
    if word == "do":
        step, argument = call_in(text)
        if argument is not None:
            argument = early_argument_in(argument)
        return (word, step, argument)
    if word == "set":
        cell, _, value = text.partition(" ")
        return (word, name_in(cell), number_in(value))
    cell, _, value = text.partition(" is ")
    return (word, name_in(cell), number_in(value), (), ())


def name_in(text):
    """Return the name that the text is."""
    if not is_name(text):
        raise WrongForm()
    return text


def is_numeral(text):
    """Whether the text is a number in the one way in which it is written."""
    if not 1 <= len(text) <= MOST_DIGITS or (text[0] == "0" and text != "0"):
        return False
    return all([digit in DIGITS for digit in text])


def number_in(text):
    """Return the number that the text is."""
    if not is_numeral(text):
        raise WrongForm()
    return int(text)


def early_argument_in(text):
    """Return the argument that the text is: a number, or a cell that is read now."""
    if is_numeral(text):
        return int(text)
    return ("now", name_in(text))


def argument_in(text):
    """Return the argument of an action that the text is."""
    if text.startswith(LATE):
        return ("late", name_in(text[len(LATE):]))
    return early_argument_in(text)


def call_in(text):
    """Return the step of a call, and the text of its argument or None."""
    step, mark, rest = text.partition("(")
    if not mark:
        return name_in(step), None
    if not rest.endswith(")"):
        raise WrongForm()
    return name_in(step), rest[:-1]


def action_in(text, depth):
    """Return the action of this depth that the text is."""
    head, mark, rest = text.partition(" [")
    # A guard holds no space, so the last " on " is the one in front of it.
    call, _, guard = head.rpartition(" on ")
    if guard not in GUARDS:
        raise WrongForm()
    step, argument = call_in(call)
    if argument is not None:
        argument = argument_in(argument)
    if not mark:
        return (guard, step, argument, ())
    if depth == GREATEST_DEPTH or not rest.endswith("]"):
        raise WrongForm()
    further = tuple([action_in(part, depth + 1) for part in parts_of(rest[:-1])])
    return (guard, step, argument, further)


def parts_of(text):
    """Return the list of the texts between those semicolons that stand outside of all brackets."""
    parts = []
    level = 0
    for piece in text.split("; "):
        if level == 0:
            parts.append(piece)
        else:
            parts[-1] = f"{parts[-1]}; {piece}"
        level = level + piece.count("[") - piece.count("]")
    return parts
