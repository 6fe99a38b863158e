"""Paths through charts: which answers lead from one row to another."""


def paths_from(chart, row):
    """Return a dict of the rows that can be reached from this one, itself too, each with its shortest answers."""
    found = {row: ()}
    met = [row]
    at = 0
    while at < len(met):
        before = met[at]
        for answer, target in enumerate(chart.targets(before)):
            if target not in found:
                found[target] = (*found[before], answer)
                met.append(target)
        at = at + 1
    return found
