"""Remainders: what a family still does after some answers."""

from exitdeeds.charts import followed, links_of, out_row_of
from exitdeeds.errors import AlreadyLeft
from exitdeeds.exits import state
from exitdeeds.families import Family, word_for
from exitdeeds.openings import open_states
from exitdeeds.partings import parting_answers
from exitdeeds.paths import paths_from
from exitdeeds.words import live
from exitdeeds.worlds import World


def remainder(chart, book, world):
    """Return what the family still does after the answers of the world, as a family."""
    asked, first, passed = followed(chart, world.answers)
    if len(asked) < len(world):
        raise AlreadyLeft(len(asked))
    return Family(rows_from(chart, first), start_at(chart, first, passed, book))


def rows_from(chart, first):
    """Return the rows that can be reached from the first one, numbered from there."""
    # The paths are found breadth first, so their rows come in the new order.
    met = list(paths_from(chart, first))
    numbers = {row: number for number, row in enumerate(met)}
    rows = []
    for row in met:
        ask, *pairs = chart.rows[row]
        rows.append((ask, *[(numbers[target], puts) for target, puts in pairs]))
    return rows


def start_at(chart, first, passed, book):
    """Return the start of the remainder with this first row, before which all that was passed has been put."""
    start = []
    for leaving in chart.leavings():
        opened = opened_by(chart, leaving, book)
        word = [half for puts in passed for half in word_for(puts, leaving)]
        kept = live(word, opened.get(first, ()), book)
        if kept:
            start.append((leaving, kept))
    return tuple(start)


def links_by_word(chart, leaving):
    """Return the links of a family with the words that they put for the leaving."""
    return [(row, answer, target, word_for(puts, leaving)) for row, answer, target, puts in links_of(chart)]


def opened_by(chart, leaving, book):
    """Return a dict of the open states of each row of a family from which the leaving can be made."""
    goals = {out_row_of(chart, leaving): (state(leaving[0]),)}
    return open_states(links_by_word(chart, leaving), goals, book)


def family_links_for(chart, leaving, book):
    """Return the links of a family that are on a way to the leaving, with the words that they put for it."""
    opened = opened_by(chart, leaving, book)
    return [link for link in links_by_word(chart, leaving) if link[2] in opened]


def parting_world(first, second, book):
    """Return a world for which the runs of two families over the book differ, or None if they are equal."""
    answers = parting_answers((first, second), family_links_for, book)
    return None if answers is None else World(answers)
