"""Covers: the fewest worlds that meet all rows of a plan."""

from exitdeeds.paths import paths_from
from exitdeeds.plans import plan
from exitdeeds.worlds import World


def cover(body):
    """Return (worlds, rows): worlds that meet all rows, and as many rows of which no world meets two.

    Rows that lead to each other are taken together, and the first one of them
    stands for all. Then what leads to what is an order: each world meets the
    rows of a chain, and the fewest chains that hold all rows are as many as
    the most rows of which none leads to another.
    """
    chart = plan(body)
    paths = [paths_from(chart, row) for row in range(len(chart))]
    firsts = [row for row in range(len(paths)) if together_with(row, paths)[0] == row]
    below = {row: [other for other in firsts if other != row and other in paths[row]] for row in firsts}
    behind, before = links_of_chains(below)
    heads = [row for row in firsts if row not in before]
    return [World(answers_over(head, behind, paths)) for head in heads], rows_apart(below, behind, before)


def together_with(row, paths):
    """Return the ascending list of the rows that lead to this one and back, with the row itself."""
    return [other for other in range(len(paths)) if other in paths[row] and row in paths[other]]


def links_of_chains(below):
    """Return the links of the fewest chains that hold all rows: two dicts, by the upper and by the lower row.

    As many rows as possible get a lower row each, no two the same one.
    """
    behind = {}
    before = {}
    for row in below:
        came, lower = came_from([row], below, before)
        # All rows on the way to the free one take another lower row.
        while lower is not None:
            upper = came[lower]
            given_up = behind.get(upper)
            behind[upper] = lower
            before[lower] = upper
            lower = given_up
    return behind, before


def came_from(uppers, below, before):
    """Return (came, free): the lower rows that these rows could take, or others that would give up theirs.

    `came` is a dict of them, each with the upper row that would take it.
    `free` is the first one met that no row has, with which the search ends, or
    None.
    """
    came = {}
    waiting = list(uppers)
    while waiting:
        upper = waiting.pop()
        for lower in below[upper]:
            if lower not in came:
                came[lower] = upper
                if lower not in before:
                    return came, lower
                waiting.append(before[lower])
    return came, None


def rows_apart(below, behind, before):
    """Return the ascending list of as many rows as there are chains, of which none leads to another."""
    came, _ = came_from([row for row in below if row not in behind], below, before)
    could = {before[lower]: True for lower in came}
    return [row for row in below if (row in could or row not in behind) and row not in came]


def answers_over(head, behind, paths):
    """Return the answers that lead from row 0 over all rows of the chain that begins with this row."""
    answers = ()
    last = 0
    while head is not None:
        for row in together_with(head, paths):
            answers = answers + paths[last][row]
            last = row
        head = behind.get(head)
    return answers
