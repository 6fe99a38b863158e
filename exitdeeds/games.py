"""Games over bodies: from which positions the first side can have what it wants.

A position is a pair (row, good): a row of the plan, and a tuple of exits. The
first side has what it wants exactly if one of these exits is pending when all
that was put behind the row has been taken off. For the second side answers all
questions on the way out: an exit is good if none of its answers there can keep
the run from showing a wanted exit.
"""

from exitdeeds.charts import links_of
from exitdeeds.showing import ways_through

# The first parts of the exits that the steps of these kinds make.
MADE = {"answer": "return", "jump": "leave", "heal": "return", "swap": "raise"}


def positions_of(chart, exits, book):
    """Return the positions of the game for these exits, the first one first.

    They are the keys of a dict. Each has the tuple of the positions behind the
    answers 0 and 1, which is empty at an out row.
    """
    pending = exits_of(chart, book)
    changes = {link[:2]: changes_by(link[3], pending, book) for link in links_of(chart)}
    places = [(0, good_above([left for left in pending if left in exits], changes[(-1, 0)]))]
    found = {places[0]: ()}
    at = 0
    while at < len(places):
        row, good = places[at]
        behind = [
            (target, good_above(good, changes[(row, answer)])) for answer, target in enumerate(chart.targets(row))
        ]
        found[places[at]] = tuple(behind)
        for place in behind:
            if place not in found:
                found[place] = ()
                places.append(place)
        at = at + 1
    return found


def exits_of(chart, book):
    """Return the list of all exits that can be pending in a run of the plan."""
    found = {leaving[0]: True for leaving in chart.leavings()}
    for step in book:
        found[("raise", step)] = True
        word = book[step][0]
        if word in MADE:
            found[(MADE[word], book[step][1])] = True
    return list(found)


def changes_by(word, pending, book):
    """Return a dict of the exits that can be pending below the word, as lists, by those above it."""
    return {left: list(ways_through(word, left, book)) for left in pending}


def good_above(good, changes):
    """Return the tuple of the exits that are good above a word, if these are good below it."""
    return tuple([left for left, lower in changes.items() if all([other in good for other in lower])])


def ranks_of(following, won, own):
    """Return a dict of the positions from which the first side can have what it wants.

    Each has the number of the questions that it needs at most before the body
    leaves. `won` has the positions at which the body leaves by a good exit,
    `own` those at which the first side answers.
    """
    into = {}
    for place, behind in following.items():
        for other in behind:
            into.setdefault(other, []).append(place)
    ranks = {place: 0 for place in won}
    last = list(ranks)
    rank = 0
    while last:
        reached = [place for other in last for place in into.get(other, [])]
        last = []
        for place in reached:
            known = [other in ranks and ranks[other] <= rank for other in following[place]]
            if place not in ranks and (place in own or all(known)):
                ranks[place] = rank + 1
                last.append(place)
        rank = rank + 1
    return ranks
