"""Nested charts: the charts of bodies whose agendas have a bound, with the stacks inside their rows."""

from exitdeeds.charts import Chart, links_by_target, links_of, out_row_of
from exitdeeds.errors import Unbounded
from exitdeeds.exits import state
from exitdeeds.openings import links_for, opened_for
from exitdeeds.ordering import ascending
from exitdeeds.paths import paths_from
from exitdeeds.plans import plan
from exitdeeds.ways import with_way_out
from exitdeeds.words import below, sifted
from exitdeeds.worlds import World
from exitdeeds.writing import write_action


class Nested(Chart):
    """A chart without puts: each row stands for a row of the plan and for the halves that lie there.

    A row is a tuple (level, ask, first, second) or (level, ("out", exit,
    store)). `levels` is a tuple of pairs (parent, half).
    """

    def __init__(self, rows, levels):
        super().__init__(rows, ())
        self.levels = tuple(levels)

    def targets(self, row):
        """Return the numbers of the rows that follow the answers 0 and 1, and () for an out row."""
        return self.rows[row][2:]

    def leavings(self):
        """Return the ascending list of the leavings of the out rows, each once."""
        found = {row[1][1:]: True for row in self.rows if len(row) == 2}
        return ascending(list(found))

    @property
    def depth(self):
        """The greatest number of halves on the stack of a level."""
        return max([len(self.stack(level)) for level in range(len(self.levels))])

    def stack(self, level):
        """Return the list of the halves on the stack of the level, the lowest first."""
        found = []
        while level > 0:
            level, half = self.levels[level]
            found.append(half)
        return found[::-1]

    def run(self, book, world):
        """Return the run of the nested chart over this book, a list of rows."""
        asked = []
        row = self.rows[0]
        while len(row) > 2 and len(asked) < len(world):
            answer = world.answers[len(asked)]
            asked.append((*row[1], answer))
            row = self.rows[row[2 + answer]]
        if len(row) > 2:
            return asked
        return with_way_out(book, asked, row[1][1:], self.stack(row[0]), world)

    def describe(self):
        """Return how many rows there are, and how deep their stacks are."""
        said = super().describe()
        return f"{said}, depth {self.depth}"


def bounded(body):
    """Whether there is a number that the length of no agenda of the body exceeds."""
    return growing(plan(body), body.book) is None


def nested(body):
    """Return the nested chart of the body; raise Unbounded if its agendas have no bound."""
    chart = plan(body)
    grown = growing(chart, body.book)
    if grown is not None:
        leaving, head, loop, tail = grown
        raise Unbounded(leaving, head, loop, tail)
    return nested_chart(chart, kept_puts(chart, body.book))


def growing(chart, book):
    """Return (leaving, head, loop, tail) with a loop that lets the agendas grow, or None if there is none.

    A half that is live once, in front of some tail, is live each time that the
    loop puts it: with a guard "done" it makes all halves below it live, and
    with a guard "error" an error can be pending below it too. So it is enough
    to find one live half on a link that lies in a loop.
    """
    paths = [paths_from(chart, row) for row in range(len(chart))]
    for leaving in chart.leavings():
        into = links_by_target(links_for(chart, leaving, book))
        for (row, states), tail in tails_of(chart, into, leaving, book).items():
            for before, answer, _, word in into.get(row, []):
                if before in paths[row] and sifted(word, states, book)[0]:
                    loop = (*paths[row][before], answer)
                    return leaving, chart.beginning(row), World(loop), World(tail)
    return None


def tails_of(chart, into, leaving, book):
    """Return a dict of answers that lead to the leaving, by the places (row, states) where they begin.

    The states are those that can be pending when the halves that are put on
    the way of these answers have been taken off.
    """
    places = [(out_row_of(chart, leaving), (state(leaving[0]),))]
    found = {places[0]: ()}
    at = 0
    while at < len(places):
        row, states = places[at]
        for before, answer, _, word in into.get(row, []):
            place = (before, sifted(word, states, book)[1])
            if before >= 0 and place not in found:
                found[place] = (answer, *found[places[at]])
                places.append(place)
        at = at + 1
    return found


def kept_puts(chart, book):
    """Return a dict of the halves that each link of a plan puts, as lists without those that are left out.

    The keys are the pairs (row, answer).
    """
    links = links_of(chart)
    live = {}
    for leaving in chart.leavings():
        opened = opened_for(chart, leaving, book)
        for row, answer, target, puts in links:
            for at in live_places(puts, opened.get(target, ()), book):
                live[(row, answer, at)] = True
    return {
        (row, answer): [half for at, half in enumerate(puts) if (row, answer, at) in live]
        for row, answer, _, puts in links
    }


def live_places(puts, states, book):
    """Return the list of the indexes of the halves that are live for the states above all of them."""
    found = []
    for at in range(len(puts) - 1, -1, -1):
        if puts[at][0] in states:
            found.append(at)
        states = below(puts[at], states, book)
    return found


def nested_chart(chart, puts):
    """Return the nested chart of a plan of which each link puts these halves."""
    levels = [(-1, None)]
    numbers = {}
    places = [(0, level_with(levels, numbers, 0, puts[(-1, 0)]))]
    known = {places[0]: 0}
    rows = []
    while len(rows) < len(places):
        row, level = places[len(rows)]
        following = []
        for answer, target in enumerate(chart.targets(row)):
            place = (target, level_with(levels, numbers, level, puts[(row, answer)]))
            if place not in known:
                known[place] = len(places)
                places.append(place)
            following.append(known[place])
        rows.append((level, chart.rows[row][0], *following))
    return Nested(rows, levels)


def level_with(levels, numbers, level, halves):
    """Return the number of the level on which these halves lie above this level, and add what is new.

    `numbers` is a dict of the numbers of the levels by their parents and the
    texts of their halves.
    """
    for half in halves:
        key = (level, write_action(half))
        if key not in numbers:
            numbers[key] = len(levels)
            levels.append((level, half))
        level = numbers[key]
    return level
