"""Actions: the check, the halves, and what a put statement puts."""

from exitdeeds.errors import BadAction, UnknownStep
from exitdeeds.names import check_number
from exitdeeds.stores import check_cell, shown

GUARDS = ("done", "error", "always")
CELL_WORDS = ("now", "late")
MOST_FURTHER = 3
GREATEST_DEPTH = 2


def check_action(book, action):
    """Return the action, checked as the action of a statement."""
    check_at_depth(book, action, 0)
    return action


def check_at_depth(book, action, depth):
    """Check an action of this depth, and then its further actions in their order."""
    guard, step, argument, further = action
    if guard not in GUARDS:
        raise BadAction(action)
    if step not in book:
        raise UnknownStep(step)
    check_argument(book, action)
    if further and (guard == "error" or depth == GREATEST_DEPTH):
        raise BadAction(action)
    if len(further) > MOST_FURTHER:
        raise BadAction(action)
    for part in further:
        check_at_depth(book, part, depth + 1)


def check_argument(book, action):
    """Check the argument of the action itself."""
    argument = action[2]
    if argument is None:
        return
    if not isinstance(argument, tuple):
        check_number(argument)
        return
    word, cell = argument
    if word not in CELL_WORDS:
        raise BadAction(action)
    check_cell(cell, book)


def halves(action):
    """Return the tuple of the halves of an action, in the order in which they are put."""
    guard, step, argument, further = action
    if guard != "always":
        return (action,)
    return (("done", step, argument, further), ("error", step, argument, ()))


def all_halves(word):
    """Return the list of the halves of these actions, in the order in which they are put."""
    return [half for action in word for half in halves(action)]


def reads_now(action):
    """Whether the argument of the action itself is ("now", cell)."""
    argument = action[2]
    return isinstance(argument, tuple) and argument[0] == "now"


def settled(action, book, store):
    """Return the halves that a put statement puts when the cells have these values."""
    if not reads_now(action):
        return halves(action)
    guard, step, argument, further = action
    return halves((guard, step, shown(argument, book, store), further))


def with_further(action):
    """Return the list of the action and of all further actions in it, in reading order."""
    found = [action]
    for part in action[3]:
        found.extend(with_further(part))
    return found
