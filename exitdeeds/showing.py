"""Which exits show, and which actions are never done."""

from exitdeeds.actions import all_halves
from exitdeeds.asking import asked
from exitdeeds.charts import links_by_target, links_of
from exitdeeds.errors import NeverShows
from exitdeeds.exits import after, state
from exitdeeds.ordering import ascending
from exitdeeds.plans import plan
from exitdeeds.worlds import World


def shows(body):
    """Return the ascending list of the exits that show in some finished run of the body."""
    return ascending(endings(body))


def world_for(body, shown):
    """Return a shortest world whose run is finished and shows the exit `shown`."""
    found = endings(body)
    if shown not in found:
        raise NeverShows(shown)
    return World(found[shown])


def never(body):
    """Return the ascending list of the numbers of the actions of which no half is asked in any run."""
    found = asked(body)
    many = len(body.actions())
    return [number for number in range(many) if (number, "done") not in found and (number, "error") not in found]


def endings(body):
    """Return a dict of the exits that show in some run; each has the answers of a shortest one.

    The search goes from the out rows back to the start, while the pending exit
    goes down the stack; it takes what needs fewer answers first.
    """
    chart = plan(body)
    into = links_by_target(links_of(chart))
    waiting = {0: [(number, row[0][1], (), ()) for number, row in enumerate(chart.rows) if len(row) == 1]}
    length = 0
    taken = {}
    found = {}
    while waiting:
        entries = waiting.pop(length, [])
        length = length + 1
        for row, pending, inside, outside in entries:
            if (row, pending) in taken:
                continue
            taken[(row, pending)] = True
            for before, answer, _, puts in into[row]:
                for left, more in ways_through(puts, pending, body.book).items():
                    if before < 0:
                        keep_shorter(found, left, (*inside, *outside, *more))
                    else:
                        entry = (before, left, (answer, *inside), (*outside, *more))
                        waiting.setdefault(length + len(more), []).append(entry)
    return found


def keep_shorter(found, left, answers):
    """Keep these answers for the exit, unless it has others that are no longer."""
    if left not in found or len(answers) < len(found[left]):
        found[left] = answers


def ways_through(word, pending, book):
    """Return a dict of the exits that can be pending below the word; each has its fewest answers."""
    found = {pending: ()}
    for half in all_halves(word)[::-1]:
        lower = {}
        for above, answers in found.items():
            for left, more in ways_through_half(half, above, book):
                keep_shorter(lower, left, answers + more)
        found = lower
    return found


def ways_through_half(half, pending, book):
    """Return the list of the pairs (exit, answers) of one half and of what it puts."""
    guard, step, _, further = half
    if guard != state(pending):
        return [(pending, ())]
    failed = after(pending, step, book[step], guard, 0)
    done = after(pending, step, book[step], guard, 1)
    behind = ways_through(further, done, book)
    return [(failed, (0,)), *[(left, (1, *answers)) for left, answers in behind.items()]]
