import random
import unittest

from exitdeeds.bodies import Body
from exitdeeds.books import Book
from exitdeeds.errors import (
    BadLine, BadName, BadNumber, DeedError, Finished, NoMark, NothingLeft, OtherBook, Parted, TooLarge,
)
from exitdeeds.exits import after, state
from exitdeeds.pairs import alike
from exitdeeds.running import run
from exitdeeds.walks import Walk
from exitdeeds.worlds import World
from exitdeeds.writing import write
from tests.making import Maker, act, body_of, lines, sample_book
from tests.texts import ALIKE, LOOP

UNDO, WORK = act("error", "undo"), act("done", "work")
TWO = lines("put undo on error", "put work on done", "return 3")
FIELDS = ("body", "given", "log", "question", "pending", "store", "piled", "marks")


class Left(Exception):
    """The body leaves."""


class Stopped(Exception):
    """A question has no answer."""


class Interpreter:
    """Runs a body statement by statement; another way to see what a walk shows."""

    def __init__(self, body, answers):
        self.book = body.book
        self.answers = list(answers)
        self.cells = {name: 0 for name, _ in body.book.cells}
        self.log, self.piled, self.question, self.pending = [], [], None, None
        try:
            self.leave(body.statements)
            self.unwind()
        except Stopped:
            pass
        self.store = tuple(self.cells.values())

    def ask(self, *question):
        if not self.answers:
            self.question = question
            raise Stopped
        self.log.append((*question, self.answers.pop(0)))
        return self.log[-1][-1]

    def value(self, argument):
        return self.cells[argument[1]] if isinstance(argument, tuple) else argument

    def leave(self, statements):
        try:
            self.block(statements)
            self.pending = ("return", 0)
        except Left as left:
            self.pending = left.args[0]
        self.log.append(("out", self.pending, tuple(self.cells.values())))

    def block(self, statements):
        for word, *parts in statements:
            getattr(self, "run_" + word)(*parts)

    def run_do(self, step, argument):
        if not self.ask("do", step, self.value(argument)):
            raise Left(("raise", step))

    def run_put(self, action):
        guard, step, argument, further = action
        if isinstance(argument, tuple) and argument[0] == "now":
            argument = self.value(argument)
        self.pile((guard, step, argument, further))

    def pile(self, action):
        guard, step, argument, further = action
        if guard == "always":
            self.piled += [("done", step, argument, further), ("error", step, argument, ())]
        else:
            self.piled.append(action)

    def run_set(self, cell, value):
        self.cells[cell] = value

    def run_if(self, test, first, second):
        self.block(first if self.ask("test", test) else second)

    def run_while(self, test, inner):
        while self.ask("test", test):
            self.block(inner)

    def run_when(self, cell, value, first, second):
        self.block(first if self.cells[cell] == value else second)

    def run_return(self, value):
        raise Left(("return", self.value(value)))

    def run_leave(self, name):
        raise Left(("leave", name))

    def run_raise(self, name):
        raise Left(("raise", name))

    def unwind(self):
        while self.piled:
            guard, step, argument, further = self.piled.pop()
            if guard == state(self.pending):
                answer = self.ask("way", step, self.value(argument))
                self.pending = after(self.pending, step, self.book[step], guard, answer)
                for action in further if answer else ():
                    self.pile(action)
        self.log.append(("end", self.pending))


def snapshot(walk):
    return [getattr(walk, field) for field in FIELDS] + [len(walk), walk.text]


class WalkCase(unittest.TestCase):
    def check(self, walk, text, marks=()):
        """All fields are those of the run for these answers."""
        seen = Interpreter(walk.body, World.read(text))
        self.assertEqual(walk.given, World.read(text))
        self.assertIsInstance(walk.given, World)
        self.assertEqual(walk.log, tuple(seen.log))
        self.assertEqual(walk.log, tuple(run(walk.body, walk.given)))
        self.assertEqual(walk.question, seen.question)
        self.assertEqual(walk.pending, seen.pending)
        self.assertEqual(walk.store, seen.store)
        self.assertEqual(walk.piled, tuple(seen.piled))
        self.assertEqual(walk.marks, tuple((name, World.read(digits)) for name, digits in marks))
        self.assertEqual(len(walk), len(text))
        self.assertEqual(walk.text, "\n".join([text, *[f"{name} {digits}" for name, digits in marks]]))
        for field in ("log", "store", "piled", "marks"):
            self.assertIsInstance(getattr(walk, field), tuple)

    def refused(self, error, walk, call, *arguments):
        """The call raises the error and changes nothing, what can be undone and redone neither."""
        before = snapshot(walk)
        with self.assertRaises(error) as caught:
            call(*arguments)
        self.assertIsInstance(caught.exception, DeedError)
        self.assertEqual(snapshot(walk), before)
        return caught.exception

    def walk(self, text, answers="", *cells):
        walk = Walk(body_of(text, *cells))
        for digit in answers:
            self.assertIsNone(walk.answer(int(digit)))
        return walk


class FieldTest(WalkCase):
    def test_the_example(self):
        walk = Walk(body=body_of(TWO))
        self.assertEqual(walk.question, ("way", "work", None))
        self.assertEqual(walk.pending, ("return", 3))
        self.assertEqual(walk.piled, (UNDO,))
        self.assertEqual(walk.log, (("out", ("return", 3), ()),))
        self.assertIsNone(walk.answer(answer=0))
        self.assertEqual(walk.question, ("way", "undo", None))
        self.assertEqual(walk.pending, ("raise", "work"))
        self.assertEqual(walk.piled, ())
        self.assertIsNone(walk.answer(1))
        self.assertIsNone(walk.question)
        self.assertEqual(walk.pending, ("raise", "work"))
        self.assertEqual(walk.log[-1], ("end", ("raise", "work")))
        self.check(walk, "01")

    def test_the_empty_body(self):
        walk = self.walk("")
        self.assertEqual(walk.log, (("out", ("return", 0), ()), ("end", ("return", 0))))
        self.assertEqual((walk.question, walk.pending, walk.store, walk.piled), (None, ("return", 0), (), ()))
        self.check(walk, "")
        self.assertEqual(self.walk("", "", ("n", 3), ("a", 2)).store, (0, 0))

    def test_inside_the_body(self):
        text = lines("set n 2", "put work(n) on always", "while a", "  put undo(late n) on error", "  set n 1", "  do gain(n)",
                     "end", "return n")
        walk = self.walk(text, "", ("n", 3))
        self.assertEqual((walk.question, walk.pending, walk.store), (("test", "a"), None, (2,)))
        self.assertEqual(walk.piled, (act("done", "work", 2), act("error", "work", 2)))
        walk.answer(1)
        self.assertEqual((walk.question, walk.pending, walk.store), (("do", "gain", 1), None, (1,)))
        self.assertEqual(walk.piled[2:], (act("error", "undo", ("late", "n")),))
        walk.answer(1)
        self.check(walk, "11")
        walk.answer(0)
        self.assertEqual((walk.question, walk.pending, walk.store), (("way", "work", 2), ("return", 1), (1,)))
        # The two halves above it have been dropped.
        self.assertEqual(walk.piled, ())
        self.check(walk, "110")
        walk = self.walk(text, "10", ("n", 3))
        self.assertEqual((walk.question, walk.pending), (("way", "undo", 1), ("raise", "gain")))
        self.check(walk, "10")

    def test_further_actions(self):
        walk = self.walk("put work on done [cure on always; undo on done; turn on error]", "1")
        self.assertEqual(walk.question, ("way", "undo", None))
        self.assertEqual(walk.piled, (act("done", "cure"), act("error", "cure")))
        self.check(walk, "1")

    def test_random_walks(self):
        for seed in range(250):
            maker = Maker(seed)
            walk = Walk(maker.body())
            text = ""
            self.check(walk, text)
            for answer in maker.world(12):
                if walk.question is None:
                    break
                walk.answer(answer)
                text += str(answer)
                self.check(walk, text)

    def test_class_value(self):
        self.assertEqual(Walk.MARKS, 9)

    def test_a_log_is_not_shared(self):
        walk = self.walk(LOOP, "11")
        log = walk.log
        walk.answer(1)
        self.assertEqual(len(log), 2)


class AnswerTest(WalkCase):
    def test_bad_number(self):
        for walk in (self.walk(LOOP), self.walk("")):
            for answer in (-1, 2, 10, 10 ** 20):
                # The finished run comes after the wrong number.
                self.assertEqual(self.refused(BadNumber, walk, walk.answer, answer).number, answer)

    def test_finished(self):
        for walk in (self.walk(""), self.walk(LOOP, "0"), self.walk(TWO, "01"), self.walk(TWO, "1")):
            for answer in (0, 1):
                self.refused(Finished, walk, walk.answer, answer)


class BackTest(WalkCase):
    def test_back(self):
        walk = self.walk(LOOP, "1111101")
        for count, left in ((0, "1111101"), (1, "111110"), (4, "11"), (2, ""), (0, "")):
            self.assertIsNone(walk.back(count=count))
            self.check(walk, left)

    def test_back_from_a_finished_run(self):
        walk = self.walk(TWO, "01")
        walk.back(1)
        self.check(walk, "0")
        walk.answer(0)
        self.check(walk, "00")

    def test_bad_number(self):
        walk = self.walk(LOOP, "111")
        for count in (-1, 4, 1000, -10 ** 20):
            self.assertEqual(self.refused(BadNumber, walk, walk.back, count).number, count)
        walk = self.walk("")
        self.assertEqual(self.refused(BadNumber, walk, walk.back, 1).number, 1)


class MarkTest(WalkCase):
    def test_mark_and_go(self):
        walk = self.walk(LOOP, "11")
        self.assertIsNone(walk.mark(name="b"))
        self.check(walk, "11", [("b", "11")])
        walk.back(2)
        walk.mark("a1")
        walk.answer(0)
        walk.mark("c")
        marks = [("a1", ""), ("b", "11"), ("c", "0")]
        self.check(walk, "0", marks)
        for name, text in (("b", "11"), ("a1", ""), ("c", "0"), ("c", "0")):
            self.assertIsNone(walk.go(name=name))
            self.check(walk, text, marks)

    def test_a_mark_that_is_replaced(self):
        walk = self.walk(LOOP, "1")
        walk.mark("b")
        walk.mark("a")
        walk.answer(1)
        walk.mark("b")
        self.check(walk, "11", [("a", "1"), ("b", "11")])

    def test_bad_name_and_too_large(self):
        walk = self.walk(LOOP)
        for name in "ihgfedcba":
            walk.mark(name)
        marks = [(name, "") for name in "abcdefghi"]
        self.check(walk, "", marks)
        self.assertEqual(self.refused(TooLarge, walk, walk.mark, "j").most, 9)
        # With nine marks, the wrong name comes first.
        for name in ("", "J", "a b", "9", "abcdefghijklm", "a_"):
            self.assertEqual(self.refused(BadName, walk, walk.mark, name).name, name)
        walk.answer(1)
        walk.mark("e")
        marks[4] = ("e", "1")
        self.check(walk, "1", marks)
        self.refused(TooLarge, walk, walk.mark, "ee")

    def test_no_mark(self):
        walk = self.walk(LOOP, "1")
        walk.mark("a")
        for name in ("b", "", "A B", "aa"):
            self.assertEqual(self.refused(NoMark, walk, walk.go, name).name, name)


class ChangeTest(WalkCase):
    def test_to_an_alike_body_and_back(self):
        for first, second in ALIKE:
            one, two = body_of(first), body_of(second)
            walk = Walk(one)
            walk.mark("a")
            text = ""
            for answer in (1, 0, 1):
                if walk.question is None:
                    break
                walk.answer(answer)
                text += str(answer)
            self.assertIsNone(walk.change(body=two))
            self.assertEqual(write(walk.body), write(two))
            self.check(walk, text, [("a", "")])
            walk.change(one)
            self.assertEqual(walk.body, one)
            self.check(walk, text, [("a", "")])

    def test_what_lies_there_is_that_of_the_new_body(self):
        walk = self.walk(lines("if a", "end", "put work on done"))
        self.assertEqual(walk.piled, ())
        walk.change(body_of(lines("put work on done", "if a", "end")))
        self.assertEqual(walk.piled, (WORK,))
        self.check(walk, "")

    def test_other_book_before_parted(self):
        walk = self.walk(LOOP, "11")
        other = Body(Book(), [])
        self.refused(OtherBook, walk, walk.change, other)
        book = sample_book()
        book["more"] = ("plain",)
        self.refused(OtherBook, walk, walk.change, Body(book, walk.body.statements))

    def test_parted(self):
        walk = self.walk(LOOP, "11")
        other = body_of(LOOP.replace("undo", "turn"))
        world = self.refused(Parted, walk, walk.change, other).world
        self.assertNotEqual(run(walk.body, world), run(other, world))
        self.check(walk, "11")

    def test_an_equal_book_in_another_order(self):
        first = Body(Book.of(p=("plain",), q=("plain",)), [("do", "p", None)])
        second = Body(Book.of(q=("plain",), p=("plain",)), [("do", "p", None), ("put", act("error", "q"))])
        walk = Walk(first)
        walk.change(second)
        self.assertEqual(walk.body, second)


class UndoTest(WalkCase):
    def test_nothing_left(self):
        walk = self.walk(LOOP)
        self.refused(NothingLeft, walk, walk.undo)
        self.refused(NothingLeft, walk, walk.redo)
        walk.answer(1)
        self.refused(NothingLeft, walk, walk.redo)
        self.assertIsNone(walk.undo())
        self.refused(NothingLeft, walk, walk.undo)
        self.assertIsNone(walk.redo())
        self.refused(NothingLeft, walk, walk.redo)
        self.check(walk, "1")

    def test_each_kind_of_deed(self):
        walk = self.walk(LOOP)
        other = body_of(lines("if more", "  do work", "  put undo on error", *LOOP.split("\n")[:-1], "end", "return 1"))
        self.assertTrue(alike(walk.body, other))
        deeds = [
            lambda: walk.answer(1), lambda: walk.mark("a"), lambda: walk.answer(1), lambda: walk.back(2),
            lambda: walk.go("a"), lambda: walk.change(other), lambda: walk.mark("a"),
            # These change nothing, and are deeds all the same.
            lambda: walk.back(0), lambda: walk.go("a"), lambda: walk.mark("a"), lambda: walk.change(other),
        ]
        seen = [snapshot(walk)]
        for deed in deeds:
            deed()
            seen.append(snapshot(walk))
        for _ in range(2):
            for before in seen[-2::-1]:
                walk.undo()
                self.assertEqual(snapshot(walk), before)
            self.refused(NothingLeft, walk, walk.undo)
            for behind in seen[1:]:
                walk.redo()
                self.assertEqual(snapshot(walk), behind)
            self.refused(NothingLeft, walk, walk.redo)

    def test_a_new_deed_behind_undo(self):
        walk = self.walk(LOOP, "110")
        walk.undo()
        walk.undo()
        walk.answer(0)
        self.check(walk, "10")
        self.refused(NothingLeft, walk, walk.redo)
        walk.undo()
        self.check(walk, "1")
        walk.undo()
        self.check(walk, "")
        walk.redo()
        walk.redo()
        self.check(walk, "10")

    def test_a_deed_that_changes_nothing_makes_redo_forget(self):
        walk = self.walk(LOOP, "11")
        walk.undo()
        walk.back(0)
        self.refused(NothingLeft, walk, walk.redo)
        walk.undo()
        self.check(walk, "1")
        walk.undo()
        self.check(walk, "")

    def test_a_call_that_raises_is_no_deed(self):
        walk = self.walk(LOOP, "11")
        walk.undo()
        for error, call, argument in ((BadNumber, walk.answer, 2), (BadNumber, walk.back, 5), (BadName, walk.mark, "A"),
                                      (NoMark, walk.go, "a"), (Parted, walk.change, body_of(""))):
            self.refused(error, walk, call, argument)
        walk.redo()
        self.check(walk, "11")

    def test_against_a_list_of_states(self):
        """Random deeds, each undone and redone at random."""
        for seed in range(40):
            dice = random.Random(seed)
            body = Maker(seed).body()
            walk = Walk(body)
            states, at = [("", ())], 0
            for _ in range(60):
                text, marks = states[at]
                choice = dice.choice(["answer", "answer", "answer", "back", "mark", "go", "undo", "redo"])
                following = None
                if choice == "answer":
                    answer = dice.randrange(2)
                    if walk.question is None:
                        self.refused(Finished, walk, walk.answer, answer)
                    else:
                        walk.answer(answer)
                        following = (text + str(answer), marks)
                elif choice == "back":
                    count = dice.randint(0, min(2, len(text)))
                    walk.back(count)
                    following = (text[:len(text) - count], marks)
                elif choice == "mark":
                    name = dice.choice("abc")
                    walk.mark(name)
                    following = (text, tuple(sorted({**dict(marks), name: text}.items())))
                elif choice == "go":
                    name = dice.choice("abc")
                    if name in dict(marks):
                        walk.go(name)
                        following = (dict(marks)[name], marks)
                    else:
                        self.refused(NoMark, walk, walk.go, name)
                elif choice == "undo":
                    if at == 0:
                        self.refused(NothingLeft, walk, walk.undo)
                    else:
                        walk.undo()
                        at -= 1
                elif at + 1 == len(states):
                    self.refused(NothingLeft, walk, walk.redo)
                else:
                    walk.redo()
                    at += 1
                if following is not None:
                    states[at + 1:] = [following]
                    at += 1
                self.check(walk, *states[at])


class TextTest(WalkCase):
    def test_text(self):
        walk = self.walk(LOOP)
        self.assertEqual(walk.text, "")
        walk.mark("b")
        self.assertEqual(walk.text, "\nb ")
        walk.answer(1)
        walk.answer(1)
        walk.mark("a9")
        walk.mark("a10")
        self.assertEqual(walk.text, "11\na10 11\na9 11\nb ")

    def test_read_back(self):
        for text in ("", "1", "11100", "0\na ", "\na 0\nb 11\nc ", "1111100\nlate 10", "1\na10 \na9 "):
            walk = Walk.read(body=body_of(LOOP), text=text)
            self.assertIsInstance(walk, Walk)
            first, *rest = text.split("\n")
            self.check(walk, first, [tuple(line.split(" ")) for line in rest])
            self.assertEqual(walk.text, text)
            self.assertEqual(walk, Walk.read(body_of(LOOP), walk.text))
            self.refused(NothingLeft, walk, walk.undo)
            self.refused(NothingLeft, walk, walk.redo)

    def test_a_walk_that_was_read_goes_on(self):
        walk = Walk.read(body_of(LOOP), "1\na 11")
        walk.go("a")
        walk.answer(0)
        self.check(walk, "110", [("a", "11")])
        walk.undo()
        walk.undo()
        self.check(walk, "1", [("a", "11")])
        self.refused(NothingLeft, walk, walk.undo)

    def wrong(self, line, *rows, text=LOOP):
        with self.assertRaises(BadLine) as caught:
            Walk.read(body_of(text), lines(*rows))
        self.assertEqual(caught.exception.line, line, rows)
        self.assertIsInstance(caught.exception, DeedError)

    def test_form_of_the_first_line(self):
        for line in ("2", " ", "1 ", " 1", "1a", "a 1", "a ", "a", "1 1", "-1", "1\t", "1\r"):
            self.wrong(1, line)
            self.wrong(1, line, "also wrong")

    def test_form_of_a_mark(self):
        for line in ("", " ", "a", "a  1", " a 1", "a 1 ", "a\t1", "A 1", "1", "1 1", "a 2", "a b", "a 1 1", "abcdefghijklm 1",
                     " 1", "a_b 1", "a 1\r", "a 1b"):
            self.wrong(2, "1", line)
            self.wrong(3, "1", "a 1", line.replace("a", "b", 1))
            self.wrong(2, "1", line, "x", "2")

    def test_answers_that_are_not_used(self):
        self.wrong(1, "00")
        self.wrong(1, "100")
        self.wrong(2, "1", "a 01")
        self.wrong(3, "1", "a 0", "b 1110011")
        self.wrong(1, "0", text="")
        self.wrong(2, "", "a 1", text="")
        self.wrong(1, "11", text=TWO)
        self.wrong(2, "01", "a 010", text=TWO)
        self.assertEqual(len(Walk.read(body_of(TWO), "01\na 1\nb 00")), 2)

    def test_order_of_the_marks(self):
        self.wrong(3, "", "a 1", "a 1")
        self.wrong(3, "", "b ", "a ")
        self.wrong(4, "", "a ", "c ", "b ")
        self.wrong(3, "", "a9 ", "a10 ")
        self.wrong(3, "", "ab ", "a ")

    def test_the_tenth_mark(self):
        marks = [f"{name} 1" for name in "abcdefghi"]
        walk = Walk.read(body_of(LOOP), lines("1", *marks))
        self.assertEqual(len(walk.marks), 9)
        self.refused(TooLarge, walk, walk.mark, "j")
        self.wrong(11, "1", *marks, "j 1")
        self.wrong(11, "1", *marks, "j 1", "k 1", "l")
        self.wrong(3, "1", "a 1", "a 1", *marks)

    def test_the_first_wrong_line(self):
        self.wrong(1, "2", "a", "b")
        self.wrong(2, "1", "a", "a 1")
        self.wrong(3, "1", "a 1", "a 1", "b")

    def test_a_line_behind_the_last_newline(self):
        self.wrong(2, "1", "")
        self.wrong(3, "1", "a ", "")


class EqualTest(WalkCase):
    def test_equal(self):
        first, second = self.walk(LOOP, "11"), self.walk(LOOP, "111")
        self.assertFalse(first == second)
        self.assertTrue(first != second)
        second.back(1)
        self.assertTrue(first == second)
        self.assertFalse(first != second)
        first.mark("a")
        self.assertFalse(first == second)
        second.mark("b")
        self.assertFalse(first == second)
        second.undo()
        second.mark("a")
        self.assertTrue(first == second)
        second.answer(1)
        second.mark("a")
        second.back(1)
        # The marks have the same name and other answers.
        self.assertFalse(first == second)

    def test_bodies(self):
        self.assertEqual(self.walk(LOOP), Walk(body_of(LOOP)))
        self.assertNotEqual(self.walk("do work"), self.walk("do undo"))
        # Alike is not equal.
        self.assertNotEqual(self.walk("do work"), self.walk(lines("do work", "return 0")))
        self.assertNotEqual(self.walk(""), Walk(Body(Book(), [])))

    def test_with_something_else(self):
        self.assertFalse(self.walk("") == 1)
        self.assertTrue(self.walk("") != None)  # noqa: E711


if __name__ == "__main__":
    unittest.main()
