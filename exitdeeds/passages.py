"""Passages: what a rule reads from a row of a plan on until all that was put behind it has been taken off."""

from exitdeeds.actions import all_halves
from exitdeeds.exits import after, state
from exitdeeds.ordering import ascending
from exitdeeds.plans import plan
from exitdeeds.rules import BROKEN
from exitdeeds.stores import shown
from exitdeeds.worlds import World


def passages(body, rule):
    """Return the ascending list of the passages of the body for the rule."""
    return ascending([(row, before, (left, store), now) for row, before, left, store, now in ways_on(body, rule)])


def keeps(body, rule):
    """Whether no run of the body breaks the rule."""
    return breaking(body, rule) is None


def breaking(body, rule):
    """Return a world whose run breaks the rule, or None if there is none.

    Each run can be made a finished one by more answers, and a broken rule
    stays broken. So it is enough to look at the finished runs.
    """
    found = ways_on(body, rule)
    start = plan(body).start
    for key in found:
        row, before, left, store, now = key
        if (row, before) == (0, 0):
            for (shows, last), more in taken_off(start, (left, now), store, rule, body.book).items():
                if rule.next_state(last, ("end", shows)) == BROKEN:
                    return World(answers_on(found, key) + more)
    return None


def answers_on(found, key):
    """Return the answers of a way from its row to the leaving, and of what is then taken off."""
    inside = ()
    outside = ()
    while found[key] is not None:
        answer, key, more = found[key]
        inside = (*inside, answer)
        outside = (*more, *outside)
    return inside + outside


def ways_on(body, rule):
    """Return a dict of the ways on from the rows of the plan, as keys (row, before, exit, store, state).

    The exit and the state are those when all that was put behind the row has
    been taken off. Each value is None at an out row, and otherwise a tuple
    (answer, key, more): the answer at the row, the key of the way on behind
    it, and the answers by which the puts of this answer are taken off.
    """
    chart = plan(body)
    into = entries_into(chart, rule)
    found = {}
    for row, before in into:
        asked = chart.rows[row][0]
        if asked[0] == "out":
            _, left, store = asked
            found[(row, before, left, store, rule.next_state(before, asked))] = None
    waiting = list(found)
    while waiting:
        key = waiting.pop()
        row, before, left, store, now = key
        for earlier, puts in into[(row, before)]:
            for (lower, last), more in taken_off(puts, (left, now), store, rule, body.book).items():
                reached = (*earlier[:2], lower, store, last)
                if reached not in found:
                    found[reached] = (earlier[2], key, more)
                    waiting.append(reached)
    return found


def entries_into(chart, rule):
    """Return a dict of the pairs (row, before) that some world leads to.

    Each has the list of the pairs ((row, before, answer), puts) by which it is
    reached; the first pair (0, 0) is also reached by the start.
    """
    found = {(0, 0): []}
    places = [(0, 0)]
    at = 0
    while at < len(places):
        row, before = places[at]
        at = at + 1
        asked = chart.rows[row][0]
        for answer, (target, puts) in enumerate(chart.rows[row][1:]):
            place = (target, rule.next_state(before, (*asked, answer)))
            if place not in found:
                found[place] = []
                places.append(place)
            found[place].append(((row, before, answer), puts))
    return found


def taken_off(word, above, store, rule, book):
    """Return a dict of the pairs (exit, state) below a word, each with answers that lead to it.

    `above` is the pair above the word.
    """
    found = {above: ()}
    for half in all_halves(word)[::-1]:
        lower = {}
        for pair, answers in found.items():
            for reached, more in half_taken_off(half, pair, store, rule, book):
                lower.setdefault(reached, answers + more)
        found = lower
    return found


def half_taken_off(half, above, store, rule, book):
    """Return the list of the pairs ((exit, state), answers) of one half and of what it puts."""
    guard, step, argument, further = half
    pending, now = above
    if guard != state(pending):
        return [(above, ())]
    ask = ("way", step, shown(argument, book, store))
    failed, done = [
        (after(pending, step, book[step], guard, answer), rule.next_state(now, (*ask, answer))) for answer in (0, 1)
    ]
    behind = taken_off(further, done, store, rule, book)
    return [(failed, (0,)), *[(reached, (1, *answers)) for reached, answers in behind.items()]]
