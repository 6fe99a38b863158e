"""Open states: the states that can be pending at a row when all that was put behind it has been taken off."""

from exitdeeds.charts import links_by_target, links_of, out_row_of
from exitdeeds.exits import state
from exitdeeds.words import BOTH, normal, states_below, with_values


def open_states(links, goals, book):
    """Return a dict of the open states of each row from which a goal can be reached.

    `goals` is a dict of the states that are pending at the out rows, by their
    numbers. The row -1 stands for what is below the puts at the start.
    """
    found = {row: goals[row] for row in goals}
    into = links_by_target(links)
    waiting = list(goals)
    while waiting:
        target = waiting.pop()
        for row, _, _, word in into.get(target, []):
            known = found.get(row, ())
            states = united(known, states_below(word, found[target], book))
            if states != known:
                found[row] = states
                waiting.append(row)
    return found


def opened_for(chart, leaving, book):
    """Return a dict of the open states of each row of a plan from which the leaving can be made."""
    out = out_row_of(chart, leaving)
    return open_states(links_of(chart), {out: (state(leaving[0]),)}, book)


def links_for(chart, leaving, book):
    """Return the links of a plan that are on a way to the leaving.

    Instead of its puts each link has their normal form, with the arguments
    replaced for the leaving.
    """
    opened = opened_for(chart, leaving, book)
    return [
        (row, answer, target, normal(with_values(puts, book, leaving[1]), book))
        for row, answer, target, puts in links_of(chart) if target in opened
    ]


def united(first, second):
    """Return the set of states that holds the states of both sets."""
    return tuple([word for word in BOTH if word in first or word in second])


def goals_of(chart):
    """Return the states that are pending at the out rows of a chart, by their numbers."""
    return {number: (state(row[0][1]),) for number, row in enumerate(chart.rows) if len(row) == 1}
