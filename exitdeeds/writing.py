"""Writing: the texts of bodies, actions and leavings."""

from exitdeeds.statements import blocks_of


def write(body):
    """Return the text of a body."""
    return "\n".join(block_lines(body.statements, ""))


def write_action(action):
    """Return the text of an action."""
    guard, step, argument, further = action
    text = f"{call_text(step, argument)} on {guard}"
    if not further:
        return text
    parts = "; ".join([write_action(part) for part in further])
    return f"{text} [{parts}]"


def write_leaving(leaving):
    """Return the text of the exit of a leaving, and the values of its store behind it."""
    (word, goal), store = leaving
    return " ".join([word, str(goal), *[str(value) for value in store]])


def call_text(step, argument):
    """Return the text of a call."""
    if argument is None:
        return step
    return f"{step}({argument_text(argument)})"


def argument_text(argument):
    """Return the text of a number, or of a cell that is read now or late."""
    if not isinstance(argument, tuple):
        return str(argument)
    word, cell = argument
    return cell if word == "now" else f"late {cell}"


def block_lines(block, indent):
    """Return the lines of the statements of a block."""
    lines = []
    for statement in block:
        lines.extend(statement_lines(statement, indent))
    return lines


def statement_lines(statement, indent):
    """Return the lines of a statement and of its blocks."""
    lines = [indent + head_text(statement)]
    blocks = blocks_of(statement)
    if not blocks:
        return lines
    inner = indent + "  "
    lines.extend(block_lines(blocks[0], inner))
    if len(blocks) == 2 and blocks[1]:
        lines.append(indent + "else")
        lines.extend(block_lines(blocks[1], inner))
    lines.append(indent + "end")
    return lines


def head_text(statement):
    """Return the first line of a statement."""
    word, part = statement[:2]
    if word == "do":
        return f"do {call_text(part, statement[2])}"
    if word == "put":
        return f"put {write_action(part)}"
    if word == "set":
        return f"set {part} {statement[2]}"
    if word == "when":
        return f"when {part} is {statement[2]}"
    if word == "return":
        return f"return {argument_text(part)}"
    return f"{word} {part}"
