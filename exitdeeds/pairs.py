"""Whether two bodies act alike, and which actions one of them has put sooner than the other."""

from exitdeeds.charts import followed
from exitdeeds.errors import OtherBook, Parted
from exitdeeds.openings import links_for, opened_for
from exitdeeds.ordering import ascending
from exitdeeds.partings import meetings, parting_answers
from exitdeeds.plans import plan
from exitdeeds.words import live, with_values
from exitdeeds.worlds import World


def alike(first, second):
    """Whether the runs of the two bodies are equal for every world."""
    return parting(first, second) is None


def parting(first, second):
    """Return a world for which the runs of the two bodies differ, or None if there is none."""
    if first.book != second.book:
        raise OtherBook()
    answers = parting_answers((plan(first), plan(second)), links_for, first.book)
    return None if answers is None else World(answers)


def leads(first, second):
    """Return the ascending list of the tuples (left, right, leaving, side, word)."""
    parted = parting(first, second)
    if parted is not None:
        raise Parted(parted)
    book = first.book
    charts = (plan(first), plan(second))
    met = meetings(*charts)[0]
    found = []
    for leaving in charts[0].leavings():
        opened = [opened_for(chart, leaving, book) for chart in charts]
        for pair, answers in met.items():
            if pair[0] in opened[0]:
                stacks = [
                    sure_stack(chart, answers, leaving, states, book) for chart, states in zip(charts, opened)
                ]
                found.append((*pair, leaving, *longer(*stacks)))
    return ascending(found)


def sure_stack(chart, answers, leaving, opened, book):
    """Return the sure stack for the leaving at the row of a plan to which the answers lead."""
    _, row, passed = followed(chart, answers)
    stack = [half for puts in passed for half in puts]
    return live(with_values(stack, book, leaving[1]), opened[row], book)


def longer(left, right):
    """Return the side of the longer one of two words, and what it has behind the end of the other."""
    if len(left) > len(right):
        return "left", left[len(right):]
    if len(right) > len(left):
        return "right", right[len(left):]
    return "even", ()
