"""Walks: runs that are made answer by answer, with deeds that can be undone."""

from exitdeeds.errors import BadLine, BadNumber, BadWorld, Finished, NoMark, NothingLeft, Parted, TooLarge
from exitdeeds.logs import answers_of
from exitdeeds.names import check_name, is_name
from exitdeeds.pairs import parting
from exitdeeds.running import moment, run
from exitdeeds.worlds import World


class Walk:
    """A run of a body that is made answer by answer.

    All fields follow from the body, the answers given and the marks. So a deed
    is kept as these three, as they were before it.
    """

    MARKS = 9

    def __init__(self, body):
        self._done = []
        self._undone = []
        self._stand(body, World(()), ())

    def _stand(self, body, given, marks):
        rows, question, pending, store, stack = moment(body, given.answers)
        self.body = body
        self.given = given
        self.marks = marks
        self.log = tuple(rows)
        self.question = question
        self.pending = pending
        self.store = store
        self.piled = tuple(stack)

    def _now(self):
        return self.body, self.given, self.marks

    def _deed(self, body, given, marks):
        self._done.append(self._now())
        self._undone = []
        self._stand(body, given, marks)

    def answer(self, answer):
        """Answer the next question."""
        if answer not in (0, 1):
            raise BadNumber(answer)
        if self.question is None:
            raise Finished()
        self._deed(self.body, self.given + World((answer,)), self.marks)

    def back(self, count):
        """Take back the last answers."""
        if not 0 <= count <= len(self.given):
            raise BadNumber(count)
        kept = len(self.given) - count
        self._deed(self.body, World(self.given.answers[:kept]), self.marks)

    def mark(self, name):
        """Set a mark, which keeps the answers given so far."""
        check_name(name)
        marks = {**dict(self.marks), name: self.given}
        if len(marks) > Walk.MARKS:
            raise TooLarge(Walk.MARKS)
        self._deed(self.body, self.given, tuple([(word, marks[word]) for word in sorted(marks, key=str)]))

    def go(self, name):
        """Replace the answers given by those of the mark."""
        marks = dict(self.marks)
        if name not in marks:
            raise NoMark(name)
        self._deed(self.body, marks[name], self.marks)

    def change(self, body):
        """Replace the body by one that is alike."""
        parted = parting(self.body, body)
        if parted is not None:
            raise Parted(parted)
        self._deed(body, self.given, self.marks)

    def undo(self):
        """Undo the last deed that is not undone."""
        if not self._done:
            raise NothingLeft()
        body, given, marks = self._done.pop()
        self._undone.append(self._now())
        self._stand(body, given, marks)

    def redo(self):
        """Redo the deed that was undone last."""
        if not self._undone:
            raise NothingLeft()
        body, given, marks = self._undone.pop()
        self._done.append(self._now())
        self._stand(body, given, marks)

    @property
    def text(self):
        """The text of the answers given and of the marks."""
        return "\n".join([self.given.text, *[f"{name} {world.text}" for name, world in self.marks]])

    @classmethod
    def read(cls, body, text):
        """Return the walk of the body with the answers and the marks of a text, and without deeds."""
        first, *rest = text.split("\n")
        given = world_in(body, first, 1)
        marks = []
        for place, line in enumerate(rest):
            name, world = mark_in(body, line, place + 2)
            if (marks and name <= marks[-1][0]) or len(marks) == Walk.MARKS:
                raise BadLine(place + 2)
            marks.append((name, world))
        walk = cls(body)
        walk._stand(body, given, tuple(marks))
        return walk

    def __len__(self):
        return len(self.given)

    def __eq__(self, other):
        return (
            isinstance(other, Walk) and self.body == other.body
            and self.given == other.given and self.marks == other.marks
        )


def world_in(body, digits, line):
    """Return the world of the digits on this line, all of which a run of the body uses."""
    try:
        world = World.read(digits)
    except BadWorld:
        raise BadLine(line) from None
    if len(answers_of(run(body, world))) < len(world):
        raise BadLine(line)
    return world


def mark_in(body, text, line):
    """Return the pair (name, world) of the mark on this line."""
    name, gap, digits = text.partition(" ")
    if not gap or not is_name(name):
        raise BadLine(line)
    return name, world_in(body, digits, line)
