"""The errors of the package.

No message shows a number, a kind, an action or a statement that was passed:
a number in it may have more digits than Python turns into text.
"""


class DeedError(ValueError):
    """The base class of all errors of the package."""


class BadName(DeedError):
    """A string that is not a name stands where a name is required."""

    def __init__(self, name):
        super().__init__("a name has 1 to 12 lower-case letters and digits, a letter first")
        self.name = name


class BadNumber(DeedError):
    """A number lies outside of its bounds."""

    def __init__(self, number):
        super().__init__("the number lies outside of its bounds")
        self.number = number


class BadKind(DeedError):
    """A tuple is not a step kind."""

    def __init__(self, kind):
        super().__init__("this is no step kind")
        self.kind = kind


class BadAction(DeedError):
    """An action breaks a rule itself, not by a further action."""

    def __init__(self, action):
        super().__init__("the action is not well formed")
        self.action = action


class BadStatement(DeedError):
    """A tuple is not a statement, or it lies too deep."""

    def __init__(self, statement):
        super().__init__("the statement is not well formed")
        self.statement = statement


class BadWorld(DeedError):
    """An answer of a world is not 0 or 1; `at` is its index."""

    def __init__(self, at):
        super().__init__("an answer is 0 or 1")
        self.at = at


class BadLine(DeedError):
    """A line of a text is wrong; the first line has the number 1."""

    def __init__(self, line):
        super().__init__("a line of the text is wrong")
        self.line = line


class BadText(DeedError):
    """The text that was passed under a name is refused."""

    def __init__(self, name):
        super().__init__("the text of this name is refused")
        self.name = name


class UnknownStep(DeedError):
    """The book does not have the step."""

    def __init__(self, step):
        super().__init__("the book does not have this step")
        self.step = step


class UnknownCell(DeedError):
    """The book does not have the cell."""

    def __init__(self, cell):
        super().__init__("the book does not have this cell")
        self.cell = cell


class TooLarge(DeedError):
    """A bound is exceeded; `most` is the bound."""

    def __init__(self, most):
        super().__init__("a bound is exceeded")
        self.most = most


class Clash(DeedError):
    """A name already stands for something else."""

    def __init__(self, name):
        super().__init__("the name already stands for something else")
        self.name = name


class OtherBook(DeedError):
    """Two books that have to be equal are not."""

    def __init__(self):
        super().__init__("the books are not equal")


class NoAnswer(DeedError):
    """A question has no answer; `rows` is the tuple of the rows before it."""

    def __init__(self, rows):
        super().__init__("a question has no answer")
        self.rows = tuple(rows)


class NeverShows(DeedError):
    """The exit shows in no run."""

    def __init__(self, shown):
        super().__init__("the exit shows in no run")
        self.shown = shown


class Parted(DeedError):
    """Two bodies are not alike; their runs for the world differ."""

    def __init__(self, world):
        super().__init__("the bodies are not alike")
        self.world = world


class Unbounded(DeedError):
    """The agendas at the leaving grow with each repetition of the loop."""

    def __init__(self, leaving, head, loop, tail):
        super().__init__("the agendas of the body have no bound")
        self.leaving = leaving
        self.head = head
        self.loop = loop
        self.tail = tail


class NoBody(DeedError):
    """The desk has no body under the name."""

    def __init__(self, name):
        super().__init__("the desk has no body under this name")
        self.name = name


class NotRun(DeedError):
    """A log is no run of the body; `at` is the index of the first difference."""

    def __init__(self, at):
        super().__init__("the log is no run of the body")
        self.at = at


class Finished(DeedError):
    """The run is finished, so no question comes next."""

    def __init__(self):
        super().__init__("the run is finished")


class NoMark(DeedError):
    """The walk has no mark of the name."""

    def __init__(self, name):
        super().__init__("the walk has no mark of this name")
        self.name = name


class NothingLeft(DeedError):
    """There is no deed to undo or to redo."""

    def __init__(self):
        super().__init__("there is no deed to undo or to redo")


class AlreadyLeft(DeedError):
    """The body leaves before all answers are used; `used` counts those that are."""

    def __init__(self, used):
        super().__init__("the body leaves before all answers are used")
        self.used = used


class BadMove(DeedError):
    """A move of a rule is wrong; `at` is its index."""

    def __init__(self, at):
        super().__init__("a move of the rule is wrong")
        self.at = at


class OtherSide(DeedError):
    """The other side of the game answers the next question."""

    def __init__(self):
        super().__init__("the other side answers the next question")
