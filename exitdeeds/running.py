"""Running a body."""

from exitdeeds.flows import ahead, answered, ask_of, flow_of, halves_put
from exitdeeds.stores import first_store, shown
from exitdeeds.ways import way_out


def run(body, world):
    """Return the run of the body for the world: a list of rows, in the order in which things happen."""
    return moment(body, world.answers)[0]


def moment(body, answers):
    """Run the body until it is finished or an answer is missing.

    Return (rows, question, pending, store, stack). `question` is the row of the
    next question without the answer; it is None if the run is finished.
    `pending` is None before the body leaves. `stack` is the list of the halves
    that still lie there; the one that is asked next has been taken off.
    """
    rows, stack, left, store, ask = inside(body, answers)
    if left is None:
        return rows, ask, None, store, stack
    way_rows, pending, half = way_out(body.book, stack, (left, store), answers[len(rows):])
    found = [*rows, ("out", left, store), *way_rows]
    if half is None:
        return [*found, ("end", pending)], None, pending, store, stack
    return found, ("way", half[1], shown(half[2], body.book, store)), pending, store, stack


def inside(body, answers):
    """Run the body until it leaves or an answer is missing.

    Return (rows, stack, left, store, ask). `left` is the exit, or None if an
    answer is missing; then `ask` is the question that has none. Each answer
    that is used makes one row.
    """
    book = body.book
    flow = flow_of(body.statements)
    rows = []
    at, left, store, passed = ahead(book, flow, 0, first_store(book))
    stack = halves_put(book, flow, passed)
    while left is None and len(rows) < len(answers):
        answer = answers[len(rows)]
        rows.append((*ask_of(flow[at][0], book, store), answer))
        at, left, store, passed = answered(book, flow, at, store, answer)
        stack.extend(halves_put(book, flow, passed))
    ask = ask_of(flow[at][0], book, store) if left is None else None
    return rows, stack, left, store, ask
