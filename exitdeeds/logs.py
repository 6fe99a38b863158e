"""Logs: lists or tuples of rows that may be the run of a body."""

from exitdeeds.errors import NotRun
from exitdeeds.running import run
from exitdeeds.worlds import World

ANSWERED = ("do", "test", "way")


def answers_of(log):
    """Return the list of the answers of a log."""
    return [row[-1] for row in log if row[0] in ANSWERED]


def replayed(body, log):
    """Return the world of the answers of the log; raise NotRun if the log is not the run of the body for it."""
    world = World(answers_of(log))
    rows = run(body, world)
    for at, (row, other) in enumerate(zip(log, rows)):
        if row != other:
            raise NotRun(at)
    if len(log) != len(rows):
        raise NotRun(min(len(log), len(rows)))
    return world
