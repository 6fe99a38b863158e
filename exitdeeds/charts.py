"""Charts: rows that ask or that leave, numbered breadth first."""

from exitdeeds.ordering import ascending
from exitdeeds.worlds import World


class Chart:
    """The base class of all charts.

    An ask row is a tuple (ask, first, second). Its last two parts belong to the
    answers 0 and 1; each is a pair (target, puts). An out row is a tuple
    (("out", exit, store),).
    """

    def __init__(self, rows, start):
        self.rows = tuple(rows)
        self.start = start

    def __len__(self):
        return len(self.rows)

    def __iter__(self):
        return iter(self.rows)

    def targets(self, row):
        """Return the numbers of the rows that follow the answers 0 and 1, and () for an out row."""
        return tuple([pair[0] for pair in self.rows[row][1:]])

    def beginning(self, row):
        """Return the least world that leads from the start to the row."""
        answers = ()
        while row != 0:
            # The rows are numbered breadth first, so the first one that leads
            # here is the one from which this row got its number.
            before = 0
            while row not in self.targets(before):
                before = before + 1
            answers = (self.targets(before).index(row), *answers)
            row = before
        return World(answers)

    def leavings(self):
        """Return the ascending list of the leavings of the out rows."""
        return ascending([row[0][1:] for row in self.rows if len(row) == 1])

    def describe(self):
        """Return how many rows there are."""
        return f"{len(self.rows)} rows"


def followed(chart, answers):
    """Follow the answers from row 0 until an out row is reached or no answer is left.

    Return (asked, row, passed): the asks with their answers, as the rows of a
    run, the number of the row that is reached, and the list of all that was
    put on the way, the puts at the start first.
    """
    asked = []
    row = 0
    passed = [chart.start]
    while len(chart.rows[row]) > 1 and len(asked) < len(answers):
        answer = answers[len(asked)]
        asked.append((*chart.rows[row][0], answer))
        row, puts = chart.rows[row][1 + answer]
        passed.append(puts)
    return asked, row, passed


def links_of(chart):
    """Return the list of the links of a chart: tuples (row, answer, target, puts).

    The puts at the start are a link too, from the row -1 by the answer 0.
    """
    links = [(-1, 0, 0, chart.start)]
    for number, row in enumerate(chart.rows):
        for answer, (target, puts) in enumerate(row[1:]):
            links.append((number, answer, target, puts))
    return links


def links_by_target(links):
    """Return a dict of the lists of the links, by their targets."""
    found = {}
    for link in links:
        found.setdefault(link[2], []).append(link)
    return found


def out_row_of(chart, leaving):
    """Return the number of the out row of a leaving, or -1 if the chart has none."""
    wanted = (("out", *leaving),)
    for number, row in enumerate(chart.rows):
        if row == wanted:
            return number
    return -1
