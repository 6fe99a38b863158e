"""Rewriting: bodies that are alike, without what is never done, or with cells that are read early."""

from exitdeeds.actions import with_further
from exitdeeds.asking import asked, asked_puts, first_numbers
from exitdeeds.bodies import Body
from exitdeeds.charts import links_of
from exitdeeds.flows import flow_of, many
from exitdeeds.openings import opened_for
from exitdeeds.plans import plan
from exitdeeds.routes import routes
from exitdeeds.statements import blocks_of
from exitdeeds.stores import shown


def pruned(body):
    """Return the body without the actions of which no half is asked in any run."""
    flow = flow_of(body.statements)
    known = asked(body)
    actions = {
        at: pruned_action(flow[at][0][1], number, known) for at, number in first_numbers(flow).items()
    }
    return Body(body.book, with_actions(body.statements, 0, actions))


def pruned_action(action, number, known):
    """Return the action with this number without what is never asked, or None if it is never asked itself."""
    guard, step, argument, further = action
    guards = [word for word in ("done", "error") if (number, word) in known]
    if not guards:
        return None
    kept = []
    for part in further:
        inner = pruned_action(part, number + 1, known)
        if inner is not None:
            kept.append(inner)
        number = number + len(with_further(part))
    if guard == "always" and len(guards) == 1:
        guard = guards[0]
    return (guard, step, argument, tuple(kept))


def early(body):
    """Return the body in which the put statements read a cell now if they can."""
    flow = flow_of(body.statements)
    late = late_puts(body, flow)
    actions = {}
    for at in first_numbers(flow):
        guard, step, argument, further = flow[at][0][1]
        if isinstance(argument, tuple) and at not in late:
            argument = ("now", argument[1])
        actions[at] = (guard, step, argument, further)
    return Body(body.book, with_actions(body.statements, 0, actions))


def late_puts(body, flow):
    """Return a dict whose keys are the put statements whose cells can show another value when they are read late."""
    chart = plan(body)
    links = links_of(routes(body))
    found = {}
    for leaving in chart.leavings():
        opened = opened_for(chart, leaving, body.book)
        for _, _, target, passed in links:
            for at, store, half in asked_puts(body.book, flow, passed, opened.get(target, ())):
                if shown(half[2], body.book, store) != shown(half[2], body.book, leaving[1]):
                    found[at] = True
    return found


def with_actions(block, start, actions):
    """Return the block with other actions in its put statements.

    `start` is the number of its first statement. `actions` has an action for
    the number of each put statement, or None if it is to be left out.
    """
    found = []
    number = start
    for statement in block:
        if statement[0] != "put":
            found.append(with_actions_inside(statement, number, actions))
        elif actions[number] is not None:
            found.append(("put", actions[number]))
        number = number + many((statement,))
    return tuple(found)


def with_actions_inside(statement, number, actions):
    """Return the statement with other actions in the put statements of its blocks."""
    blocks = blocks_of(statement)
    number = number + 1
    parts = list(statement[:len(statement) - len(blocks)])
    for block in blocks:
        parts.append(with_actions(block, number, actions))
        number = number + many(block)
    return tuple(parts)
