"""The way out: the actions are taken off the stack while an exit is pending."""

from exitdeeds.actions import all_halves
from exitdeeds.exits import after, state
from exitdeeds.stores import shown


def way_out(book, stack, leaving, answers):
    """Run the way out of a leaving, with a stack of halves that is used up.

    Return (rows, pending, half). `half` is the one whose question has no
    answer left; it has been taken off the stack already. It is None if the way
    out came to its end, and then `pending` is the exit that shows.
    """
    pending, store = leaving
    rows = []
    half = topmost(stack, pending)
    while half is not None and len(rows) < len(answers):
        guard, step, argument, further = half
        answer = answers[len(rows)]
        rows.append(("way", step, shown(argument, book, store), answer))
        pending = after(pending, step, book[step], guard, answer)
        if answer == 1:
            stack.extend(all_halves(further))
        half = topmost(stack, pending)
    return rows, pending, half


def with_way_out(book, rows, leaving, stack, world):
    """Return the run that has these rows until its body makes the leaving, with this stack.

    Each of the rows has used one answer of the world.
    """
    way_rows, pending, half = way_out(book, stack, leaving, world.answers[len(rows):])
    found = [*rows, ("out", *leaving), *way_rows]
    if half is None:
        found.append(("end", pending))
    return found


def topmost(stack, pending):
    """Take halves off the stack up to the first one that is asked, and return that one.

    If all of them are dropped, it returns None.
    """
    while stack:
        half = stack.pop()
        if half[0] == state(pending):
            return half
    return None
