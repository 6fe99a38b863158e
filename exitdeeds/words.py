"""Words: actions in the order in which they are put, and the states that can be pending below them."""

from exitdeeds.actions import all_halves
from exitdeeds.exits import state
from exitdeeds.stores import shown

BOTH = ("done", "error")
DONE = ("done",)
# The kinds of steps by which an error can end.
CALMING = ("heal", "jump")


def below(half, states, book):
    """Return the states that can be pending below one half."""
    guard, step = half[:2]
    if guard not in states:
        return states
    if guard == "done" or book[step][0] in CALMING:
        return BOTH
    return states


def states_below(word, states, book):
    """Return the states that can be pending below all halves of the word."""
    for half in all_halves(word)[::-1]:
        states = below(half, states, book)
    return states


def sifted(word, states, book):
    """Return the halves of a normal form that are not dead for the states, and the states below all of them."""
    found = []
    for half in word[::-1]:
        if half[0] in states:
            found.append(half)
        states = below(half, states, book)
    return tuple(found[::-1]), states


def live_halves(word, states, book):
    """Return the halves of a normal form that are not dead for the states."""
    return sifted(word, states, book)[0]


def normal(word, book):
    """Return the normal form of the word."""
    found = []
    for guard, step, argument, further in all_halves(word):
        inner = live(further, DONE, book)
        at = 0
        while at < len(inner) and inner[at][0] == "done":
            at = at + 1
        found.extend(inner[:at])
        found.append((guard, step, argument, inner[at:]))
    return tuple(found)


def live(word, states, book):
    """Return the normal form of the word without the halves that are dead for the states."""
    return live_halves(normal(word, book), states, book)


def agenda(word, leaving, book):
    """Return the agenda of the word at the leaving."""
    left, store = leaving
    return live(with_values(word, book, store), (state(left),), book)


def with_values(word, book, store):
    """Return the word in which each argument that names a cell is its value in the store."""
    return tuple([action_with_values(action, book, store) for action in word])


def action_with_values(action, book, store):
    """Return the action in which each argument that names a cell is its value in the store."""
    guard, step, argument, further = action
    return (guard, step, shown(argument, book, store), with_values(further, book, store))
