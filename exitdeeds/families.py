"""Families: the least charts that run like bodies."""

from exitdeeds.charts import Chart, followed
from exitdeeds.grouping import alike_groups, groups_met
from exitdeeds.plans import plan
from exitdeeds.sooner import early_links
from exitdeeds.ways import with_way_out
from exitdeeds.writing import write_action


class Family(Chart):
    """The least chart of a body, with one stack for each leaving.

    `puts` is a tuple of pairs (leaving, word), in ascending order of the
    leavings, without empty words.
    """

    def run(self, book, world):
        """Return the run of the family over this book, a list of rows."""
        asked, row, passed = followed(self, world.answers)
        if len(self.rows[row]) > 1:
            return asked
        leaving = self.rows[row][0][1:]
        stack = [half for puts in passed for half in word_for(puts, leaving)]
        return with_way_out(book, asked, leaving, stack, world)

    def describe(self):
        """Return how many rows there are, and how many leavings they make."""
        said = super().describe()
        many = len([row for row in self.rows if len(row) == 1])
        return f"{said}, {many} leavings"

    def __eq__(self, other):
        return isinstance(other, Family) and self.rows == other.rows and self.start == other.start


def word_for(puts, leaving):
    """Return the word that these puts of a family put for the leaving."""
    for goal, word in puts:
        if goal == leaving:
            return word
    return ()


def family(body):
    """Return the family of the body."""
    chart = plan(body)
    puts = puts_by_leaving(chart, body.book)
    rows = []
    for number, row in enumerate(chart):
        pairs = [
            (target, tuple(puts.get((number, answer), []))) for answer, target in enumerate(chart.targets(number))
        ]
        rows.append((row[0], *pairs))
    return Family(merged_rows(rows), tuple(puts.get((-1, 0), [])))


def puts_by_leaving(chart, book):
    """Return a dict of the lists of the puts of the links of a plan, by the row and the answer."""
    puts = {}
    for leaving in chart.leavings():
        for row, answer, _, word in early_links(chart, leaving, book):
            if word:
                puts.setdefault((row, answer), []).append((leaving, word))
    return puts


def merged_rows(rows):
    """Return the rows in which those that go on alike are one, numbered breadth first."""
    labels = [(row[0], *[puts_key(pair[1]) for pair in row[1:]]) for row in rows]
    targets = [tuple([pair[0] for pair in row[1:]]) for row in rows]
    groups = alike_groups(labels, targets)
    met = groups_met(groups, targets)
    numbers = {groups[row]: number for number, row in enumerate(met)}
    return [
        (rows[row][0], *[(numbers[groups[target]], puts) for target, puts in rows[row][1:]])
        for row in met
    ]


def puts_key(puts):
    """Return the puts with the texts of the actions, as a part of a key."""
    return tuple([(leaving, tuple([write_action(half) for half in word])) for leaving, word in puts])
