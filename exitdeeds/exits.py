"""Exits, and how a deferred action changes the pending exit."""


def state(pending):
    """Return "done" or "error", the state of an exit."""
    return "error" if pending[0] == "raise" else "done"


def after(pending, step, kind, guard, answer):
    """Return the pending exit after an action with this guard has been answered."""
    if answer == 0:
        return ("raise", step)
    word = kind[0]
    if word == "jump":
        return ("leave", kind[1])
    if (word, guard) in (("answer", "done"), ("heal", "error")):
        return ("return", kind[1])
    if (word, guard) == ("swap", "error"):
        return ("raise", kind[1])
    return pending
