"""Which halves of the actions of a body are asked in some run."""

from exitdeeds.actions import halves, with_further
from exitdeeds.charts import links_of
from exitdeeds.flows import flow_of
from exitdeeds.openings import goals_of, open_states
from exitdeeds.plans import plan
from exitdeeds.routes import routes
from exitdeeds.words import DONE, below


def asked_puts(book, flow, passed, states):
    """Return the list of the halves of these put statements that can be asked.

    Each is a tuple (number of the statement, store, half), the topmost first.
    `states` are those that can be pending above all of them.
    """
    found = []
    for at, store in passed[::-1]:
        for half in halves(flow[at][0][1])[::-1]:
            if half[0] in states:
                found.append((at, store, half))
            states = below(half, states, book)
    return found


def asked(body):
    """Return a dict whose keys are the pairs (number of the action, guard) of the halves that are asked."""
    book = body.book
    flow = flow_of(body.statements)
    chart = plan(body)
    opened = open_states(links_of(chart), goals_of(chart), book)
    numbers = first_numbers(flow)
    found = {}
    for _, _, target, passed in links_of(routes(body)):
        for at, _, half in asked_puts(book, flow, passed, opened.get(target, ())):
            for key in asked_inside(half, numbers[at], book):
                found[key] = True
    return found


def first_numbers(flow):
    """Return a dict of the numbers of the actions of the put statements, by the statements' numbers."""
    numbers = {}
    count = 0
    for at, entry in enumerate(flow):
        statement = entry[0]
        if statement[0] == "put":
            numbers[at] = count
            count = count + len(with_further(statement[1]))
    return numbers


def asked_inside(half, number, book):
    """Return the list of the pairs (number, guard) of a half that is asked, and of what it puts that is."""
    found = [(number, half[0])]
    further = []
    for action in half[3]:
        further.append((number + 1, action))
        number = number + len(with_further(action))
    states = DONE
    for inner, action in further[::-1]:
        for part in halves(action)[::-1]:
            if part[0] in states:
                found.extend(asked_inside(part, inner, book))
            states = below(part, states, book)
    return found
