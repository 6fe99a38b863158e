"""Tables: the lines that show a family."""

from exitdeeds.writing import call_text, write_action, write_leaving


def table(chart):
    """Yield the lines of the table of a family."""
    yield from puts_lines("s", chart.start)
    for number, row in enumerate(chart):
        yield row_line(number, row, chart.targets(number))
        for answer, (_, puts) in enumerate(row[1:]):
            yield from puts_lines(answer, puts)


def row_line(number, row, targets):
    """Return the line of a row with this number and these targets."""
    if not targets:
        return f"{number:>3} out {write_leaving(row[0][1:])}"
    no, yes = targets
    return f"{number:>3} {ask_text(row[0]):.<20}{no:>4}{yes:>4}"


def ask_text(ask):
    """Return the text of an ask."""
    if ask[0] == "do":
        return f"do {call_text(ask[1], ask[2])}"
    return f"test {ask[1]}"


def puts_lines(mark, puts):
    """Return the list of the lines of the puts at the start or behind an answer, which the mark tells."""
    lines = []
    for leaving, word in puts:
        texts = "; ".join([write_action(half) for half in word])
        lines.append(f"{mark:>5} {write_leaving(leaving)}: {texts}")
    return lines
