import unittest

from exitdeeds.books import Book
from exitdeeds.errors import BadKind, BadName, BadNumber, Clash, TooLarge, UnknownStep

KINDS = (("plain",), ("answer", 0), ("answer", 999), ("jump", "away"), ("heal", 7), ("swap", "other"))
BAD_KINDS = (
    (),
    ("plain", 1),
    ("plain", "plain"),
    ("plain", 1, 2),
    ("answer",),
    ("answer", 1, 2),
    ("jump",),
    ("jump", "a", "b"),
    ("heal",),
    ("heal", 1, 2),
    ("swap",),
    ("swap", "a", "b"),
    ("other",),
    ("other", 1),
    ("",),
    ("Plain",),
    ("plain ",),
    (1, "answer"),
    (["plain"],),
)


def state_of(book):
    return [(name, book[name]) for name in book], book.cells


def numbered(count, first=0):
    return {"s" + str(place): ("plain",) for place in range(first, first + count)}


class BookCase(unittest.TestCase):
    def refused(self, error, value, deed, *books):
        """The deed raises the error with this attribute, and the books stay as they were."""
        before = [state_of(book) for book in books]
        with self.assertRaises(error) as caught:
            deed()
        self.assertEqual(list(vars(caught.exception).values()), [value])
        self.assertEqual([state_of(book) for book in books], before)

    def setting_refused(self, error, value, book, name, kind):
        def deed():
            book[name] = kind
        self.refused(error, value, deed, book)


class StepsTest(BookCase):
    def test_new_book(self):
        book = Book()
        self.assertEqual(len(book), 0)
        self.assertEqual(list(book), [])
        self.assertEqual(book.cells, ())
        self.assertEqual(book.stores, 1)
        self.assertEqual((Book.STEPS, Book.CELLS), (12, 2))

    def test_each_kind(self):
        book = Book()
        for place, kind in enumerate(KINDS):
            name = "s" + str(place)
            book[name] = kind
            self.assertEqual(book[name], kind)
            self.assertIn(name, book)
            self.assertEqual(len(book), place + 1)
        self.assertEqual(list(book), ["s0", "s1", "s2", "s3", "s4", "s5"])

    def test_order_is_that_of_first_setting(self):
        book = Book()
        for name in ("z", "a", "m"):
            book[name] = ("plain",)
        book["a"] = ("heal", 3)
        book["z"] = ("jump", "b")
        self.assertEqual(list(book), ["z", "a", "m"])
        self.assertEqual([book[name] for name in book], [("jump", "b"), ("heal", 3), ("plain",)])
        self.assertEqual(len(book), 3)

    def test_unknown_step(self):
        book = Book.of(("n", 2), sign=("plain",))
        for name in ("undo", "n", "", "Sign"):
            self.assertNotIn(name, book)
            self.refused(UnknownStep, name, lambda: book[name], book)

    def test_bad_name(self):
        book = Book.of(sign=("plain",))
        for name in ("", "Sign", "2a", "a_b", "a" * 13):
            self.setting_refused(BadName, name, book, name, ("plain",))

    def test_bad_kind(self):
        book = Book.of(sign=("plain",))
        for kind in BAD_KINDS:
            self.setting_refused(BadKind, kind, book, "undo", kind)
            self.setting_refused(BadKind, kind, book, "sign", kind)

    def test_bad_second_part(self):
        book = Book.of(sign=("plain",))
        for word in ("answer", "heal"):
            for number in (-1, 1000, 10 ** 30, -(10 ** 30)):
                self.setting_refused(BadNumber, number, book, "undo", (word, number))
                self.setting_refused(BadNumber, number, book, "sign", (word, number))
        for word in ("jump", "swap"):
            for name in ("", "Away", "1a", "a" * 13):
                self.setting_refused(BadName, name, book, "undo", (word, name))
                self.setting_refused(BadName, name, book, "sign", (word, name))

    def test_twelve_steps(self):
        book = Book()
        for name in numbered(12):
            book[name] = ("plain",)
        self.assertEqual(len(book), 12)
        self.setting_refused(TooLarge, 12, book, "s12", ("plain",))
        book["s11"] = ("heal", 1)
        book["s0"] = ("heal", 2)
        self.assertEqual((len(book), book["s11"], book["s0"]), (12, ("heal", 1), ("heal", 2)))
        self.assertEqual(list(book), list(numbered(12)))

    def test_first_error_is_raised(self):
        full = Book.of(**numbered(12))
        self.setting_refused(BadName, "S", full, "S", ())
        self.setting_refused(BadName, "S", full, "S", ("answer", -1))
        self.setting_refused(BadKind, ("answer", -1, 2), full, "new", ("answer", -1, 2))
        self.setting_refused(BadNumber, -1, full, "new", ("answer", -1))
        self.setting_refused(BadName, "X", full, "new", ("swap", "X"))
        self.setting_refused(TooLarge, 12, full, "new", ("swap", "x"))

    def test_iteration_is_new_each_time(self):
        book = Book.of(sign=("plain",), undo=("plain",))
        names = list(book)
        names.append("more")
        self.assertEqual(list(book), ["sign", "undo"])


class CellsTest(BookCase):
    def test_cells_are_sorted(self):
        for first, second in (("n", "b"), ("b", "n")):
            book = Book()
            self.assertIsNone(book.add_cell(first, 2))
            self.assertEqual(book.cells, ((first, 2),))
            self.assertIsNone(book.add_cell(second, 3))
            self.assertEqual([name for name, _ in book.cells], ["b", "n"])
            self.assertEqual(dict(book.cells), {first: 2, second: 3})
            self.assertEqual(book.cells, Book.of((second, 3), (first, 2)).cells)

    def test_cells_are_sorted_as_strings(self):
        self.assertEqual(Book.of(("n2", 2), ("n10", 3)).cells, (("n10", 3), ("n2", 2)))
        self.assertEqual(Book.of(("a", 2), ("a0", 3)).cells, (("a", 2), ("a0", 3)))

    def test_stores(self):
        self.assertEqual(Book().stores, 1)
        self.assertEqual(Book.of(("a", 2)).stores, 2)
        self.assertEqual(Book.of(("a", 3)).stores, 3)
        self.assertEqual(Book.of(("a", 2), ("b", 2)).stores, 4)
        self.assertEqual(Book.of(("a", 2), ("b", 3)).stores, 6)
        self.assertEqual(Book.of(("a", 3), ("b", 3)).stores, 9)

    def test_steps_and_cells_may_have_equal_names(self):
        book = Book.of(("sign", 2), sign=("plain",))
        self.assertEqual((book["sign"], book.cells), (("plain",), (("sign", 2),)))
        book["undo"] = ("plain",)
        book.add_cell("undo", 3)
        self.assertEqual((list(book), book.cells), (["sign", "undo"], (("sign", 2), ("undo", 3))))

    def test_a_cell_is_no_step(self):
        book = Book.of(("n", 2))
        self.assertNotIn("n", book)
        self.assertEqual((len(book), list(book)), (0, []))

    def test_refused_cells(self):
        book = Book.of(("n", 2), sign=("plain",))
        for name in ("", "N", "1n", "n" * 13):
            self.refused(BadName, name, lambda: book.add_cell(name, 2), book)
        for size in (-1, 0, 1, 4, 999, 1000, 10 ** 30):
            self.refused(BadNumber, size, lambda: book.add_cell("m", size), book)
        self.refused(Clash, "n", lambda: book.add_cell("n", 2), book)
        self.refused(Clash, "n", lambda: book.add_cell("n", 3), book)

    def test_two_cells(self):
        book = Book.of(("a", 2), ("b", 3))
        self.refused(TooLarge, 2, lambda: book.add_cell("c", 2), book)

    def test_first_error_is_raised(self):
        book = Book.of(("a", 2), ("b", 3))
        self.refused(BadName, "A", lambda: book.add_cell("A", 5), book)
        self.refused(BadNumber, 5, lambda: book.add_cell("a", 5), book)
        self.refused(BadNumber, 1, lambda: book.add_cell("c", 1), book)
        self.refused(Clash, "a", lambda: book.add_cell("a", 2), book)

    def test_arguments_by_name(self):
        book = Book()
        book.add_cell(name="n", size=3)
        self.assertEqual(book.cells, (("n", 3),))


class DefineTest(BookCase):
    def test_steps_in_their_order(self):
        book = Book.of(undo=("plain",))
        self.assertIsNone(book.define(z=("plain",), undo=("heal", 1), a=("jump", "x")))
        self.assertEqual(list(book), ["undo", "z", "a"])
        self.assertEqual([book[name] for name in book], [("heal", 1), ("plain",), ("jump", "x")])

    def test_nothing_to_set(self):
        book = Book.of(undo=("plain",))
        book.define()
        self.assertEqual(list(book), ["undo"])

    def test_all_names_may_be_keywords(self):
        words = ("self", "cls", "name", "kind", "kinds", "cells", "book", "size", "other", "class", "none")
        kinds = {word: ("answer", place) for place, word in enumerate(words)}
        book = Book()
        book.define(**kinds)
        self.assertEqual([(name, book[name]) for name in book], list(kinds.items()))
        same = Book.of(("self", 2), **kinds)
        self.assertEqual([(name, same[name]) for name in same], list(kinds.items()))

    def test_refused_definitions_change_nothing(self):
        book = Book.of(("n", 2), sign=("plain",))
        good = {"sign": ("heal", 1), "undo": ("plain",)}
        self.refused(BadName, "Up", lambda: book.define(**good, Up=("plain",)), book)
        self.refused(BadName, "a b", lambda: book.define(**good, **{"a b": ("plain",)}), book)
        self.refused(BadName, "", lambda: book.define(**good, **{"": ("plain",)}), book)
        self.refused(BadKind, (), lambda: book.define(**good, up=()), book)
        self.refused(BadNumber, 1000, lambda: book.define(**good, up=("answer", 1000)), book)
        self.refused(BadName, "Q", lambda: book.define(**good, up=("jump", "Q")), book)
        self.refused(TooLarge, 12, lambda: book.define(**good, **numbered(11)), book)

    def test_first_refused_one_counts(self):
        book = Book()
        self.refused(BadKind, (), lambda: book.define(a=(), B=("plain",)), book)
        self.refused(BadName, "B", lambda: book.define(B=("plain",), a=()), book)
        full = Book.of(**numbered(12))
        self.refused(TooLarge, 12, lambda: full.define(new=("plain",), Bad=()), full)
        self.refused(BadName, "Bad", lambda: full.define(s0=("heal", 1), Bad=()), full)
        almost = Book.of(**numbered(11))
        self.refused(BadKind, (), lambda: almost.define(a=("plain",), s3=(), b=("plain",)), almost)

    def test_up_to_twelve(self):
        book = Book.of(sign=("plain",))
        book.define(sign=("heal", 1), **numbered(11))
        self.assertEqual(len(book), 12)

    def test_keywords_are_not_kept(self):
        kinds = {"sign": ("plain",)}
        book = Book()
        book.define(**kinds)
        kinds["undo"] = ("plain",)
        self.assertEqual(list(book), ["sign"])


class OfTest(BookCase):
    def test_cells_and_steps(self):
        book = Book.of(("n", 3), ("a", 2), undo=("plain",), sign=("swap", "x"))
        self.assertIsInstance(book, Book)
        self.assertEqual(book.cells, (("a", 2), ("n", 3)))
        self.assertEqual([(name, book[name]) for name in book], [("undo", ("plain",)), ("sign", ("swap", "x"))])

    def test_nothing(self):
        self.assertEqual(Book.of(), Book())

    def test_refused_cells(self):
        self.refused(BadName, "N", lambda: Book.of(("N", 2)))
        self.refused(BadNumber, 4, lambda: Book.of(("n", 4)))
        self.refused(Clash, "n", lambda: Book.of(("n", 2), ("n", 2)))
        self.refused(Clash, "n", lambda: Book.of(("n", 2), ("n", 3), ("m", 2)))
        self.refused(TooLarge, 2, lambda: Book.of(("a", 2), ("b", 2), ("c", 2)))

    def test_refused_steps(self):
        self.refused(BadName, "S", lambda: Book.of(S=("plain",)))
        self.refused(BadKind, ("x",), lambda: Book.of(s=("x",)))
        self.refused(BadNumber, -1, lambda: Book.of(s=("heal", -1)))
        self.refused(BadName, "", lambda: Book.of(s=("swap", "")))
        self.refused(TooLarge, 12, lambda: Book.of(**numbered(13)))

    def test_cells_go_first_and_in_their_order(self):
        self.refused(BadNumber, 4, lambda: Book.of(("n", 4), ("M", 2), S=("plain",)))
        self.refused(BadName, "M", lambda: Book.of(("M", 2), ("n", 4), S=("plain",)))
        self.refused(TooLarge, 2, lambda: Book.of(("a", 2), ("b", 2), ("c", 2), s=()))

    def test_books_are_apart(self):
        first = Book.of(sign=("plain",))
        second = Book.of(sign=("plain",))
        first["undo"] = ("plain",)
        first.add_cell("n", 2)
        self.assertEqual(state_of(second), ([("sign", ("plain",))], ()))
        self.assertEqual(state_of(Book()), ([], ()))


class UnionTest(BookCase):
    def unions(self, first, second):
        """The union by both operators, after a look at what they leave as it was."""
        before = state_of(first), state_of(second)
        union = first | second
        self.assertEqual((state_of(first), state_of(second)), before)
        kept = first
        first |= second
        self.assertIs(first, kept)
        self.assertEqual(state_of(second), before[1])
        self.assertEqual(state_of(first), state_of(union))
        return state_of(union)

    def union_refused(self, error, value, first, second):
        self.refused(error, value, lambda: first | second, first, second)

        def deed():
            left = first
            left |= second
        self.refused(error, value, deed, first, second)

    def test_steps_and_cells_of_both(self):
        first = Book.of(("n", 2), z=("plain",), a=("heal", 1))
        second = Book.of(("b", 3), m=("plain",), a=("heal", 1), c=("jump", "x"))
        steps, cells = self.unions(first, second)
        self.assertEqual(steps, [("z", ("plain",)), ("a", ("heal", 1)), ("m", ("plain",)), ("c", ("jump", "x"))])
        self.assertEqual(cells, (("b", 3), ("n", 2)))

    def test_equal_cells(self):
        _, cells = self.unions(Book.of(("a", 2), ("b", 3)), Book.of(("b", 3), ("a", 2)))
        self.assertEqual(cells, (("a", 2), ("b", 3)))

    def test_empty_books(self):
        book = Book.of(("n", 2), sign=("plain",))
        self.assertEqual(book | Book(), book)
        self.assertEqual(Book() | book, book)
        self.assertEqual(Book() | Book(), Book())
        self.assertIsNot(book | Book(), book)

    def test_a_book_and_itself(self):
        book = Book.of(("n", 2), sign=("plain",))
        same = book
        self.assertEqual(self.unions(book, same), ([("sign", ("plain",))], (("n", 2),)))

    def test_first_step_that_clashes(self):
        first = Book.of(("n", 2), a=("plain",), b=("plain",), c=("plain",))
        second = Book.of(("n", 3), d=("plain",), c=("heal", 1), a=("heal", 2))
        self.union_refused(Clash, "c", first, second)
        self.union_refused(Clash, "a", second, first)

    def test_kinds_of_one_word_clash(self):
        self.union_refused(Clash, "a", Book.of(a=("heal", 1)), Book.of(a=("heal", 2)))
        self.union_refused(Clash, "a", Book.of(a=("heal", 1)), Book.of(a=("answer", 1)))

    def test_first_cell_that_clashes(self):
        self.union_refused(Clash, "n", Book.of(("n", 2)), Book.of(("n", 3)))
        self.union_refused(Clash, "a", Book.of(("b", 2), ("a", 2)), Book.of(("b", 3), ("a", 3)))
        self.union_refused(Clash, "b", Book.of(("b", 2), ("a", 2)), Book.of(("b", 3), ("a", 2)))

    def test_a_step_and_a_cell_do_not_clash(self):
        steps, cells = self.unions(Book.of(n=("plain",)), Book.of(("n", 2)))
        self.assertEqual((steps, cells), ([("n", ("plain",))], (("n", 2),)))

    def test_too_many_steps(self):
        self.assertEqual(len(Book.of(**numbered(7)) | Book.of(**numbered(6, 6))), 12)
        self.union_refused(TooLarge, 12, Book.of(**numbered(7)), Book.of(**numbered(6, 7)))
        self.union_refused(TooLarge, 12, Book.of(**numbered(12)), Book.of(new=("plain",)))

    def test_too_many_cells(self):
        self.union_refused(TooLarge, 2, Book.of(("a", 2)), Book.of(("b", 2), ("c", 2)))
        self.union_refused(TooLarge, 2, Book.of(("a", 2), ("b", 2)), Book.of(("b", 2), ("c", 2)))

    def test_first_error_is_raised(self):
        full = Book.of(("a", 2), ("b", 2), **numbered(12))
        self.union_refused(Clash, "s11", full, Book.of(("a", 3), ("c", 2), new=("plain",), s11=("heal", 1)))
        self.union_refused(Clash, "a", full, Book.of(("a", 3), ("c", 2), new=("plain",)))
        self.union_refused(TooLarge, 12, full, Book.of(("c", 2), new=("plain",)))
        self.union_refused(TooLarge, 2, full, Book.of(("c", 2), s11=("plain",)))

    def test_union_and_operands_are_apart(self):
        first = Book.of(("a", 2), sign=("plain",))
        second = Book.of(undo=("plain",))
        union = first | second
        left = Book.of(("a", 2), sign=("plain",))
        left |= second
        first["more"] = ("plain",)
        first["sign"] = ("heal", 1)
        second["less"] = ("plain",)
        second.add_cell("b", 3)
        expected = [("sign", ("plain",)), ("undo", ("plain",))], (("a", 2),)
        self.assertEqual(state_of(union), expected)
        self.assertEqual(state_of(left), expected)

    def test_changes_of_the_union_stay_there(self):
        first = Book.of(("a", 2), sign=("plain",))
        second = Book.of(undo=("plain",))
        for union in (first | second, first | Book(), Book() | second):
            union["new"] = ("plain",)
            union["undo"] = ("heal", 1)
            union.define(sign=("heal", 2))
            union.add_cell("c", 3)
        self.assertEqual(state_of(first), ([("sign", ("plain",))], (("a", 2),)))
        self.assertEqual(state_of(second), ([("undo", ("plain",))], ()))

    def test_changes_of_the_left_book_stay_there(self):
        first = Book()
        second = Book.of(("a", 2), undo=("plain",))
        first |= second
        first["undo"] = ("heal", 1)
        first["new"] = ("plain",)
        first.add_cell("b", 3)
        self.assertEqual(state_of(second), ([("undo", ("plain",))], (("a", 2),)))


class EqualityTest(BookCase):
    def check(self, first, second, equal):
        self.assertIs(first == second, equal)
        self.assertIs(second == first, equal)
        self.assertIs(first != second, not equal)
        self.assertIs(second != first, not equal)

    def test_equal_books(self):
        self.check(Book(), Book(), True)
        self.check(Book.of(("n", 2), sign=("plain",)), Book.of(("n", 2), sign=("plain",)), True)

    def test_order_does_not_matter(self):
        first = Book.of(("n", 2), ("a", 3), sign=("plain",), undo=("heal", 1))
        second = Book.of(("a", 3), ("n", 2), undo=("heal", 1), sign=("plain",))
        self.check(first, second, True)

    def test_different_books(self):
        book = Book.of(("n", 2), sign=("plain",), undo=("heal", 1))
        self.check(book, Book(), False)
        self.check(book, Book.of(("n", 2), sign=("plain",)), False)
        self.check(book, Book.of(("n", 2), sign=("plain",), undo=("heal", 2)), False)
        self.check(book, Book.of(("n", 2), sign=("plain",), undo=("answer", 1)), False)
        self.check(book, Book.of(("n", 2), sign=("plain",), redo=("heal", 1)), False)
        self.check(book, Book.of(("n", 3), sign=("plain",), undo=("heal", 1)), False)
        self.check(book, Book.of(("m", 2), sign=("plain",), undo=("heal", 1)), False)
        self.check(book, Book.of(sign=("plain",), undo=("heal", 1)), False)
        self.check(book, Book.of(("n", 2), ("m", 2), sign=("plain",), undo=("heal", 1)), False)

    def test_equality_follows_changes(self):
        first = Book.of(sign=("plain",))
        second = Book.of(sign=("heal", 1))
        self.check(first, second, False)
        second["sign"] = ("plain",)
        self.check(first, second, True)
        second.add_cell("n", 2)
        self.check(first, second, False)


if __name__ == "__main__":
    unittest.main()
