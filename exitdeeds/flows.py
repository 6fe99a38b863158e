"""The flow of a body: which statement runs behind which one.

The flow is a list of entries (statement, no, yes), one for each statement, by
its number in reading order. `no` and `yes` are the numbers of the statements
that run next: `no` behind the answer 0 of a test and if a cell does not have
the value of `when`, `yes` in all other cases. The number of all statements
stands for the end of the body.
"""

from exitdeeds.actions import settled
from exitdeeds.statements import blocks_of
from exitdeeds.stores import shown, value_of, with_value

ASKING = ("do", "if", "while")


def flow_of(statements):
    """Return the flow of the statements of a body."""
    return block_flow(statements, 0, many(statements))


def many(block):
    """Return the number of the statements of a block and of all blocks in it."""
    count = len(block)
    for statement in block:
        for inner in blocks_of(statement):
            count = count + many(inner)
    return count


def block_flow(block, start, behind):
    """Return the entries of a block whose first statement has the number `start`.

    `behind` is the number of the statement that runs behind the block.
    """
    flow = []
    for place, statement in enumerate(block):
        number = start + len(flow)
        following = number + many((statement,))
        if place + 1 == len(block):
            following = behind
        flow.extend(statement_flow(statement, number, following))
    return flow


def statement_flow(statement, number, following):
    """Return the entries of a statement with this number and of those in its blocks."""
    behind = number if statement[0] == "while" else following
    begins = []
    inside = []
    for inner in blocks_of(statement):
        begin = number + 1 + len(inside)
        begins.append(begin if inner else behind)
        inside.extend(block_flow(inner, begin, behind))
    # `if` and `when` have a block for both ways, `while` for yes alone, all others none.
    yes, no = [*begins, following, following][:2]
    return [(statement, no, yes), *inside]


def ask_of(statement, book, store):
    """Return the question of an asking statement: its row without the answer."""
    if statement[0] == "do":
        return ("do", statement[1], shown(statement[2], book, store))
    return ("test", statement[1])


def left_by(statement, book, store):
    """Return the exit of a statement that leaves, and None for any other one."""
    if statement[0] == "return":
        return ("return", shown(statement[1], book, store))
    if statement[0] in ("leave", "raise"):
        return statement
    return None


def ahead(book, flow, at, store):
    """Run from the statement with the number `at` to the next question, or until the body leaves.

    Return (at, left, store, passed). `left` is the exit, or None before the
    question of the statement `at`. `passed` is the list of the put statements
    on the way, as pairs (number, store) with the store at that time.
    """
    passed = []
    while at < len(flow):
        statement, no, yes = flow[at]
        left = left_by(statement, book, store)
        if left is not None or statement[0] in ASKING:
            return at, left, store, passed
        if statement[0] == "put":
            passed.append((at, store))
        if statement[0] == "set":
            store = with_value(statement[1], statement[2], book, store)
        at = yes
        if statement[0] == "when" and value_of(statement[1], book, store) != statement[2]:
            at = no
    return at, ("return", 0), store, passed


def answered(book, flow, at, store, answer):
    """Answer the question of the statement `at`, and run on; return what `ahead` returns."""
    statement, no, yes = flow[at]
    if answer == 1:
        return ahead(book, flow, yes, store)
    if statement[0] == "do":
        return at, ("raise", statement[1]), store, []
    return ahead(book, flow, no, store)


def halves_put(book, flow, passed):
    """Return the list of the halves that these put statements put, in order."""
    found = []
    for at, store in passed:
        found.extend(settled(flow[at][0][1], book, store))
    return found
