import unittest
from unittest import mock

from exitdeeds import desks
from exitdeeds.bodies import Body
from exitdeeds.books import Book
from exitdeeds.desks import Desk
from exitdeeds.errors import BadLine, BadName, BadText, DeedError, NoBody, OtherBook, TooLarge, UnknownStep
from exitdeeds.pairs import alike
from exitdeeds.reading import read
from tests.making import Maker, body_of, lines, sample_book
from tests.texts import ALIKE, LOOP

BAD_NAMES = ("", "A", "1a", "a b", "a_b", "abcdefghijklm", "_x", "a.")


class DeskCase(unittest.TestCase):
    def refused(self, error, call, *arguments, **named):
        with self.assertRaises(error) as caught:
            call(*arguments, **named)
        self.assertIsInstance(caught.exception, DeedError)
        return caught.exception

    def desk(self, **texts):
        made = Desk(sample_book())
        made.load(**texts)
        return made

    def check(self, desk, **texts):
        """The desk has just these bodies, in this order, and reads nothing."""
        self.assertEqual(list(desk), list(texts))
        self.assertEqual(len(desk), len(texts))
        for name, text in texts.items():
            self.assertIn(name, desk)
            self.assertEqual(desk[name], body_of(text))
        self.assertIsNone(desk.reading)


class SetTest(DeskCase):
    def test_an_empty_desk(self):
        desk = Desk(book=sample_book())
        self.check(desk)
        self.assertEqual(len(desk), 0)
        self.assertNotIn("a", desk)
        self.assertNotIn("A b", desk)
        self.assertFalse("work" in desk)

    def test_names_in_the_order_of_their_first_settings(self):
        desk = Desk(sample_book())
        for name, text in (("z", ""), ("b", "do work"), ("a1", "do undo"), ("c", LOOP)):
            desk[name] = body_of(text)
        self.check(desk, z="", b="do work", a1="do undo", c=LOOP)

    def test_a_name_that_is_set_anew(self):
        desk = self.desk(z="", b="do work", a="do undo")
        desk["b"] = body_of(LOOP)
        self.check(desk, z="", b=LOOP, a="do undo")
        desk["y"] = desk["z"]
        self.check(desk, z="", b=LOOP, a="do undo", y="")

    def test_the_longest_name(self):
        desk = Desk(sample_book())
        desk["abcdefghijk9"] = body_of("")
        self.check(desk, abcdefghijk9="")

    def test_no_body(self):
        desk = self.desk(a="do work")
        for name in ("b", "work", *BAD_NAMES):
            self.assertEqual(self.refused(NoBody, lambda: desk[name]).name, name)
        self.check(desk, a="do work")

    def set_to(self, desk, name, body):
        desk[name] = body

    def test_bad_name_before_other_book(self):
        desk = self.desk(a="do work")
        other = Body(Book(), [])
        for name in BAD_NAMES:
            for body in (body_of(""), other):
                self.assertEqual(self.refused(BadName, self.set_to, desk, name, body).name, name)
        self.check(desk, a="do work")

    def test_other_book(self):
        desk = self.desk(a="do work")
        more, kind = sample_book(), sample_book()
        more["more"] = ("plain",)
        kind["undo"] = ("heal", 1)
        for book in (Book(), more, kind, sample_book(("n", 2))):
            for name in ("a", "b"):
                self.refused(OtherBook, self.set_to, desk, name, Body(book, []))
        self.check(desk, a="do work")

    def test_an_equal_book_with_its_steps_in_another_order(self):
        book = Book.of(("n", 2), ("a", 3), p=("plain",), q=("heal", 1))
        other = Book.of(("a", 3), ("n", 2), q=("heal", 1), p=("plain",))
        desk = Desk(book)
        desk["a"] = Body(other, [("do", "p", None)])
        self.assertEqual(desk["a"], Body(book, [("do", "p", None)]))

    def test_the_book_is_a_copy(self):
        book = sample_book()
        desk = Desk(book)
        book["more"] = ("plain",)
        book.add_cell("n", 2)
        self.refused(OtherBook, self.set_to, desk, "a", Body(book, []))
        desk["a"] = body_of("do work")
        error = self.refused(BadText, desk.load, b="do more")
        self.assertIsInstance(error.__cause__.__cause__, UnknownStep)
        desk.load(b=LOOP)
        self.check(desk, a="do work", b=LOOP)


class LoadTest(DeskCase):
    def test_no_text(self):
        desk = self.desk(a="do work")
        self.assertIsNone(desk.load())
        self.check(desk, a="do work")

    def test_right_texts(self):
        desk = Desk(sample_book())
        self.assertIsNone(desk.load(z=LOOP, b="", late="do work(3)"))
        self.check(desk, z=LOOP, b="", late="do work(3)")
        desk.load(y="do undo", b="return 2")
        self.check(desk, z=LOOP, b="return 2", late="do work(3)", y="do undo")

    def test_a_body_that_is_called_self(self):
        desk = Desk(sample_book())
        desk.load(self="do work", cls="do undo", desk="", name="return 1", texts="return 2", text="return 3")
        self.assertEqual(list(desk), ["self", "cls", "desk", "name", "texts", "text"])
        self.assertEqual([len(desk[name]) for name in desk], [1, 1, 0, 1, 1, 1])

    def test_a_wrong_text_in_the_middle(self):
        desk = self.desk(b="do work")
        error = self.refused(BadText, desk.load, a="do undo", b="do undo", c="do work\ndo", d="do undo")
        self.assertEqual(error.name, "c")
        self.assertIsInstance(error.__cause__, BadLine)
        self.assertEqual(error.__cause__.line, 2)
        self.check(desk, b="do work")

    def test_two_wrong_texts(self):
        desk = self.desk(b="do work")
        error = self.refused(BadText, desk.load, z="return 1\nx", b="return 2", a="x")
        self.assertEqual((error.name, error.__cause__.line), ("z", 2))
        self.check(desk, b="do work")

    def test_the_cause_is_the_error_of_read(self):
        desk = Desk(sample_book(("n", 3), ("a", 3)))
        for text in ("do nothing", "while a", "end", "\n", "\n".join(["do work"] * 25), "\n".join(["do work"] * 13)):
            error = self.refused(BadText, desk.load, a=text)
            cause = self.refused(DeedError, read, sample_book(("n", 3), ("a", 3)), text)
            self.assertEqual((error.__cause__.__class__, vars(error.__cause__)), (cause.__class__, vars(cause)))
            self.assertEqual(len(desk), 0)
            self.assertIsNone(desk.reading)
        self.assertIsInstance(error.__cause__, TooLarge)
        self.assertEqual(error.__cause__.most, 120)

    def test_a_keyword_that_is_no_name(self):
        desk = self.desk(b="do work")
        for name in BAD_NAMES:
            if name != "_x":
                error = self.refused(BadName, desk.load, **{"a": "x", "b": "", name: ""})
                self.assertEqual(error.name, name)
                self.check(desk, b="do work")
        error = self.refused(BadName, desk.load, **{"_x": "", "A": "", "a": "x"})
        self.assertEqual(error.name, "_x")
        self.check(desk, b="do work")

    def test_nothing_is_read_in_front_of_a_bad_name(self):
        seen = []
        with mock.patch.object(desks, "read", lambda book, text: seen.append(text)):
            self.refused(BadName, Desk(sample_book()).load, a="do work", B="do work")
        self.assertEqual(seen, [])

    def test_reading(self):
        desk = self.desk(b="do work")
        seen = []

        def watched(book, text):
            seen.append((desk.reading, text, list(desk)))
            return read(book, text)

        with mock.patch.object(desks, "read", watched):
            desk.load(c="do undo", b="", a="do work")
            self.assertIsNone(desk.reading)
            self.refused(BadText, desk.load, d="return 1", b="x", e="")
        self.assertEqual(seen, [
            ("c", "do undo", ["b"]), ("b", "", ["b"]), ("a", "do work", ["b"]),
            ("d", "return 1", ["b", "c", "a"]), ("b", "x", ["b", "c", "a"]),
        ])
        self.check(desk, b="", c="do undo", a="do work")


class ClassesTest(DeskCase):
    def test_an_empty_desk(self):
        self.assertEqual(list(Desk(sample_book()).classes()), [])

    def test_one_body(self):
        self.assertEqual(list(self.desk(a=LOOP).classes()), [("a",)])

    def test_bodies_that_are_alike_or_not(self):
        desk = self.desk(d="do work", c="", b="put undo on error", e="return 0", a="do work", f="do undo")
        self.assertEqual(list(desk.classes()), [("a", "d"), ("b", "c", "e"), ("f",)])

    def test_ascending_order(self):
        desk = self.desk(z="", y9="return 0", y10="return 0", b="do work", aa="do undo", x="return 1", a1="return 1")
        self.assertEqual(list(desk.classes()), [("a1", "x"), ("aa",), ("b",), ("y10", "y9", "z")])

    def test_all_alike(self):
        for first, second in ALIKE:
            self.assertEqual(list(self.desk(b=first, a=second, c=first).classes()), [("a", "b", "c")])

    def test_equal_texts_and_the_same_body(self):
        desk = self.desk(a=LOOP, b=LOOP)
        desk["c"] = desk["a"]
        self.assertEqual(list(desk.classes()), [("a", "b", "c")])

    def test_random_bodies(self):
        books = {}
        for seed in range(300):
            body = Maker(seed).body(2)
            books.setdefault(str(body.book.cells), []).append(body)
        many = 0
        for bodies in books.values():
            desk = Desk(bodies[0].book)
            for at, body in enumerate(bodies[:25]):
                desk[f"b{(at * 7) % 25}"] = body
            found = list(desk.classes())
            self.assertEqual(sorted(name for names in found for name in names), sorted(desk))
            self.assertEqual(found, sorted(found))
            many += len([names for names in found if len(names) > 1])
            place = {}
            for names in found:
                self.assertEqual(list(names), sorted(names))
                place.update({name: names for name in names})
            for one in desk:
                for two in desk:
                    self.assertEqual(alike(desk[one], desk[two]), place[one] == place[two])
        self.assertGreater(many, 4)

    def test_a_desk_is_not_changed(self):
        desk = self.desk(b="", a="return 0")
        for names in desk.classes():
            self.assertIsInstance(names, tuple)
        self.check(desk, b="", a="return 0")
        self.assertEqual(lines(*desk), "b\na")


if __name__ == "__main__":
    unittest.main()
