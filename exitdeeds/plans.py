"""Plans: the charts of bodies."""

from exitdeeds.charts import Chart, followed, links_of
from exitdeeds.flows import flow_of, halves_put
from exitdeeds.routes import routes
from exitdeeds.ways import with_way_out


class Plan(Chart):
    """The chart of a body, with an ask row for each asking statement and store.

    All that it puts lies on one stack: `puts` is a tuple of halves.
    """

    def run(self, book, world):
        """Return the run of the plan over this book, a list of rows."""
        asked, row, passed = followed(self, world.answers)
        if len(self.rows[row]) > 1:
            return asked
        stack = [half for puts in passed for half in puts]
        return with_way_out(book, asked, self.rows[row][0][1:], stack, world)

    def describe(self):
        """Return how many rows there are, and how many halves they put."""
        said = super().describe()
        many = sum([len(link[3]) for link in links_of(self)])
        return f"{said}, {many} puts"


def plan(body):
    """Return the plan of the body."""
    chart = routes(body)
    flow = flow_of(body.statements)
    rows = []
    for ask, *pairs in chart:
        rows.append((ask, *[(target, settled_puts(body, flow, passed)) for target, passed in pairs]))
    return Plan(rows, settled_puts(body, flow, chart.start))


def settled_puts(body, flow, passed):
    """Return the tuple of the halves that these put statements put."""
    return tuple(halves_put(body.book, flow, passed))
