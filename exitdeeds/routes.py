"""The routes of a body: which question follows which answer, and the put statements on the way."""

from exitdeeds.charts import Chart
from exitdeeds.flows import ahead, answered, ask_of, flow_of
from exitdeeds.stores import first_store


def routes(body):
    """Return the chart that puts pairs (number of the put statement, store) instead of halves."""
    book = body.book
    flow = flow_of(body.statements)
    place, start = place_and_puts(ahead(book, flow, 0, first_store(book)))
    places = [place]
    numbers = {place: 0}
    rows = []
    while len(rows) < len(places):
        at, left, store = places[len(rows)]
        if left is not None:
            rows.append((("out", left, store),))
            continue
        pairs = []
        for answer in (0, 1):
            place, passed = place_and_puts(answered(book, flow, at, store, answer))
            if place not in numbers:
                numbers[place] = len(places)
                places.append(place)
            pairs.append((numbers[place], passed))
        rows.append((ask_of(flow[at][0], book, store), *pairs))
    return Chart(rows, start)


def place_and_puts(reached):
    """Return the place that stands for a row, and what was put on the way to it."""
    at, left, store, passed = reached
    # All statements that make the same leaving have one row.
    place = (at, None, store) if left is None else (-1, left, store)
    return place, tuple(passed)
