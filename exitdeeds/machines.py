"""Finite machines that read words from the last action to the first.

A machine is a list of rows (ends, moves). It starts in row 0; `ends` tells
whether it may stop in the row, and `moves` is the tuple of the pairs
(text, target) for the texts that it can read there, in ascending order. A
machine without rows reads no word. No function here changes a machine.
"""

from exitdeeds.grouping import alike_groups, groups_met


def target_of(rows, row, text):
    """Return the number of the row behind this text, or -1 if the machine cannot read it there."""
    if not 0 <= row < len(rows):
        return -1
    return dict(rows[row][1]).get(text, -1)


def moves_of(targets):
    """Return the moves of a dict of targets by their texts."""
    return tuple([(text, targets[text]) for text in sorted(targets, key=str)])


def machine_of(rows_of_texts):
    """Return the least machine that reads just these words, which are tuples of texts."""
    targets = [{}]
    ends = {}
    for word in rows_of_texts:
        row = 0
        for text in word[::-1]:
            if text not in targets[row]:
                targets[row][text] = len(targets)
                targets.append({})
            row = targets[row][text]
        ends[row] = True
    return least([(row in ends, moves_of(inner)) for row, inner in enumerate(targets)])


def without_choice(nodes):
    """Return the least machine that reads what these nodes read.

    Each node is a tuple (ends, moves, silent): it may have several moves with
    one text, and `silent` are the numbers of the nodes that it can become
    without reading. The first node has the number 0.
    """
    groups = [closure(nodes, [0])]
    numbers = {groups[0]: 0}
    rows = []
    while len(rows) < len(groups):
        group = groups[len(rows)]
        reached = {}
        for node in group:
            for text, target in nodes[node][1]:
                reached.setdefault(text, []).append(target)
        targets = {}
        for text, found in reached.items():
            other = closure(nodes, found)
            if other not in numbers:
                numbers[other] = len(groups)
                groups.append(other)
            targets[text] = numbers[other]
        rows.append((any([nodes[node][0] for node in group]), moves_of(targets)))
    return least(rows)


def closure(nodes, group):
    """Return the ascending tuple of the nodes that these can become without reading."""
    found = {node: True for node in group}
    waiting = list(found)
    while waiting:
        node = waiting.pop()
        for other in nodes[node][2]:
            if other not in found:
                found[other] = True
                waiting.append(other)
    return tuple(sorted(found, key=int))


def combined(first, second, wanted):
    """Return the least machine for two machines together.

    It reads a word if the pair of truths, whether the first machine reads it
    and whether the second does, is one of the wanted ones.
    """
    pairs = [(0, 0)]
    numbers = {(0, 0): 0}
    rows = []
    while len(rows) < len(pairs):
        left, right = pairs[len(rows)]
        targets = {}
        for text in texts_at(first, left) + texts_at(second, right):
            pair = (target_of(first, left, text), target_of(second, right, text))
            if pair not in numbers:
                numbers[pair] = len(pairs)
                pairs.append(pair)
            targets[text] = numbers[pair]
        rows.append(((ends_at(first, left), ends_at(second, right)) in wanted, moves_of(targets)))
    return least(rows)


def texts_at(rows, row):
    """Return the list of the texts that a machine can read in the row; -1 stands for no row."""
    return [move[0] for move in rows[row][1]] if 0 <= row < len(rows) else []


def ends_at(rows, row):
    """Whether a machine may stop in the row; -1 stands for no row."""
    return rows[row][0] if 0 <= row < len(rows) else False


def least(rows):
    """Return the least machine that reads the same words, with its rows in one certain order."""
    rows = living(rows)
    if rows[0] == (False, ()):
        return []
    labels = [(ends, tuple([move[0] for move in moves])) for ends, moves in rows]
    targets = [tuple([move[1] for move in moves]) for _, moves in rows]
    groups = alike_groups(labels, targets)
    met = groups_met(groups, targets)
    numbers = {groups[row]: number for number, row in enumerate(met)}
    return [
        (rows[row][0], tuple([(text, numbers[groups[target]]) for text, target in rows[row][1]]))
        for row in met
    ]


def living(rows):
    """Return the machine without the moves to rows from which it cannot come to an end.

    Such rows themselves stay, but nothing leads there; row 0 can be one of them.
    """
    into = [[] for row in rows]
    for row, (_, moves) in enumerate(rows):
        for _, target in moves:
            into[target].append(row)
    alive = {row: True for row, (ends, _) in enumerate(rows) if ends}
    waiting = list(alive)
    while waiting:
        target = waiting.pop()
        for row in into[target]:
            if row not in alive:
                alive[row] = True
                waiting.append(row)
    return [(ends, tuple([move for move in moves if move[1] in alive])) for ends, moves in rows]


def can_go_round(rows):
    """Whether some way through the machine comes to a row again."""
    ended = {}
    before = -1
    while before < len(ended):
        before = len(ended)
        for row, (_, moves) in enumerate(rows):
            if row not in ended and all([move[1] in ended for move in moves]):
                ended[row] = True
    return len(ended) < len(rows)


def spelled(rows, length):
    """Return the list of the words of this length that the machine reads, as tuples of texts."""
    found = [[()] if ends else [] for ends, _ in rows]
    for _ in range(length):
        found = [[(*word, text) for text, target in moves for word in found[target]] for _, moves in rows]
    return found[0] if rows else []
