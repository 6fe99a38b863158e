"""Running a body."""

from exitdeeds.flows import ahead, answered, ask_of, flow_of, halves_put
from exitdeeds.stores import first_store
from exitdeeds.ways import with_way_out


def run(body, world):
    """Return the run of the body for the world: a list of rows, in the order in which things happen."""
    rows, stack, left, store = inside(body, world.answers)
    if left is None:
        return rows
    return with_way_out(body.book, rows, (left, store), stack, world)


def inside(body, answers):
    """Run the body until it leaves or an answer is missing.

    Return (rows, stack, left, store). `left` is the exit, or None if an answer
    is missing. Each answer that is used makes one row.
    """
    book = body.book
    flow = flow_of(body.statements)
    rows = []
    at, left, store, passed = ahead(book, flow, 0, first_store(book))
    stack = halves_put(book, flow, passed)
    while left is None and len(rows) < len(answers):
        answer = answers[len(rows)]
        rows.append((*ask_of(flow[at][0], book, store), answer))
        at, left, store, passed = answered(book, flow, at, store, answer)
        stack.extend(halves_put(book, flow, passed))
    return rows, stack, left, store
