"""Grouping rows that go on alike, and numbering the groups breadth first.

A row has a label, which can be a key of a dict, and a tuple of the numbers of
its targets. No function here changes what it is passed.
"""


def alike_groups(labels, targets):
    """Return the list of the groups of the rows, as coarse as possible.

    Two rows of one group have equal labels, and targets of equal groups.
    """
    groups = divided(labels, [() for label in labels])
    before, many = 0, len(set(groups))
    while before < many:
        before = many
        groups = divided(groups, targets)
        many = len(set(groups))
    return groups


def divided(groups, targets):
    """Return the groups of the rows that were in one group, with targets in equal groups."""
    numbers = {}
    found = []
    for group, following in zip(groups, targets):
        key = (group, tuple([groups[target] for target in following]))
        if key not in numbers:
            numbers[key] = len(numbers)
        found.append(numbers[key])
    return found


def groups_met(groups, targets):
    """Return the list of the first rows of the groups that row 0 leads to, in the order in which they are met."""
    met = [0]
    seen = {groups[0]: True}
    at = 0
    while at < len(met):
        row = met[at]
        for target in targets[row]:
            if groups[target] not in seen:
                seen[groups[target]] = True
                met.append(target)
        at = at + 1
    return met
