"""The words of a family: each half is put as early as possible."""

from exitdeeds.charts import links_by_target, out_row_of
from exitdeeds.exits import state
from exitdeeds.openings import links_for, open_states
from exitdeeds.words import live_halves, sifted

# Stands for the lowest halves of several ways that are not the same.
SEVERAL = ()


def early_links(chart, leaving, book):
    """Return the links of a plan that are on a way to the leaving, with words for it put as early as possible."""
    goals = {out_row_of(chart, leaving): (state(leaving[0]),)}
    links = live_links(links_for(chart, leaving, book), goals, book)
    certain = certain_halves(links, goals, book)
    while certain:
        links = live_links([moved(link, certain) for link in links], goals, book)
        certain = certain_halves(links, goals, book)
    return links


def live_links(links, goals, book):
    """Return the links with the halves of their words that are live for the open states at their targets."""
    opened = open_states(links, goals, book)
    return [
        (row, answer, target, live_halves(word, opened[target], book)) for row, answer, target, word in links
    ]


def moved(link, certain):
    """Return the link with the certain half of its target, and without that of the row from which it goes out."""
    row, answer, target, word = link
    if target in certain:
        word = (*word, certain[target])
    if row in certain and word[:1] == (certain[row],):
        word = word[1:]
    return row, answer, target, word


def certain_halves(links, goals, book):
    """Return a dict of the certain halves of those rows that have one."""
    found = {}
    for row, known in lowest_halves(links, goals, book).items():
        half = certain_half(known)
        # What is certain below the start has no place to go to.
        if row >= 0 and half:
            found[row] = half
    return found


def certain_half(known):
    """Return the half that is the lowest one of all ways that matter to it, or None."""
    for half in known.values():
        if half:
            agreed = [other == half for states, other in known.items() if half[0] in states]
            if agreed and all(agreed):
                return half
    return None


def lowest_halves(links, goals, book):
    """Return, for each row, a dict of the lowest halves of its ways, by the states that can be pending below.

    The half is None if the ways put nothing, and SEVERAL if they differ.
    """
    found = {row: {goals[row]: None} for row in goals}
    into = links_by_target(links)
    waiting = list(goals)
    while waiting:
        target = waiting.pop()
        for row, _, _, word in into.get(target, []):
            known = found.setdefault(row, {})
            for states, lowest in list(found[target].items()):
                kept, below = sifted(word, states, book)
                lowest = kept[0] if kept else lowest
                if known.get(below, lowest) != lowest:
                    lowest = SEVERAL
                if below not in known or known[below] != lowest:
                    known[below] = lowest
                    waiting.append(row)
    return found
