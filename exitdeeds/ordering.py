"""Ascending order of tuples."""


def ascending(things):
    """Return the list of these things in ascending order."""
    runs = [[thing] for thing in things]
    while len(runs) > 1:
        runs = [merged(runs[at:at + 2]) for at in range(0, len(runs), 2)]
    return runs[0] if runs else []


def merged(runs):
    """Return the list of the things of one or two ascending lists, in ascending order."""
    if len(runs) == 1:
        return runs[0]
    first, second = runs
    found = []
    at = 0
    for thing in first:
        while at < len(second) and second[at] < thing:
            found.append(second[at])
            at = at + 1
        found.append(thing)
    return found + second[at:]
