"""Which agendas can lie on the stack when a body leaves."""

from exitdeeds.agendas import Agendas
from exitdeeds.charts import links_by_target, out_row_of
from exitdeeds.exits import state
from exitdeeds.machines import without_choice
from exitdeeds.openings import links_for
from exitdeeds.plans import plan
from exitdeeds.words import sifted
from exitdeeds.writing import write_action


def lying(body, leaving):
    """Return the set of the agendas with which the body can make the leaving.

    The machine goes back from the out row, and reads what was put on the way.
    A place is a tuple (row, states, texts): the states are those that can be
    pending there, and the texts are still to be read before the row.
    """
    chart = plan(body)
    out = out_row_of(chart, leaving)
    if out < 0:
        return Agendas.of()
    into = links_by_target(links_for(chart, leaving, body.book))
    actions = {}
    places = [(out, (state(leaving[0]),), ())]
    numbers = {places[0]: 0}
    nodes = []
    while len(nodes) < len(places):
        row, states, texts = places[len(nodes)]
        if texts:
            before = [(row, states, texts[:-1])]
        else:
            before = [place_before(link, states, body.book, actions) for link in into.get(row, [])]
        for place in before:
            if place not in numbers:
                numbers[place] = len(places)
                places.append(place)
        targets = [numbers[place] for place in before]
        if texts:
            nodes.append((False, [(texts[-1], targets[0])], []))
        else:
            nodes.append((row < 0, [], targets))
    return Agendas(without_choice(nodes), actions)


def place_before(link, states, book, actions):
    """Return the place at the row from which a link goes out, and keep the actions that it puts."""
    row, _, _, word = link
    word, below = sifted(word, states, book)
    texts = tuple([write_action(half) for half in word])
    for text, half in zip(texts, word):
        actions[text] = half
    return row, below, texts
