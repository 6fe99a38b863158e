import unittest

from exitdeeds.bodies import Body
from exitdeeds.books import Book
from exitdeeds.errors import (
    BadAction, BadName, BadNumber, BadStatement, OtherBook, TooLarge, UnknownCell, UnknownStep,
)
from exitdeeds.running import run
from exitdeeds.worlds import World

HUGE = 10 ** 5000
UNDO = ("error", "undo", None, ())
UNDO_PUT = ("put", UNDO)
DEEP = ("done", "work", ("now", "n"), (("always", "undo", ("late", "a"), (UNDO,)), UNDO))
RIGHT = (
    ("do", "work", None),
    ("do", "work", 0),
    ("do", "undo", 999),
    ("do", "undo", ("now", "n")),
    ("put", UNDO),
    ("put", DEEP),
    ("set", "n", 0),
    ("set", "n", 2),
    ("set", "a", 1),
    ("if", "more", (), ()),
    ("if", "work", (("leave", "x"),), (("do", "work", None),)),
    ("while", "n", ()),
    ("while", "more", (("set", "a", 0),)),
    ("when", "a", 1, (), ()),
    ("when", "n", 2, (("put", UNDO),), (("return", 1),)),
    ("return", 0),
    ("return", 999),
    ("return", ("now", "a")),
    ("leave", "none"),
    ("raise", "work"),
    ("raise", "none"),
)
GOOD = ("do", "work", None)
WRONG = ("do", "missing", None)


def sample_book():
    return Book.of(("n", 3), ("a", 2), work=("plain",), undo=("heal", 1))


def nested(statement, depth, before=(), behind=()):
    """Statements in which the statement has this depth, with others directly before and behind it."""
    wraps = (
        lambda block: ("while", "more", block),
        lambda block: ("if", "more", block, ()),
        lambda block: ("when", "n", 1, (), block),
        lambda block: ("if", "more", (), block),
    )
    for place in range(depth):
        statement = wraps[place % 4]((*before, statement, *behind))
    return [*before, statement, *behind]


class BodyCase(unittest.TestCase):
    def refused(self, error, value, statements, book=None):
        with self.assertRaises(error) as caught:
            Body(sample_book() if book is None else book, statements)
        self.assertIs(caught.exception.__class__, error)
        self.assertEqual(list(vars(caught.exception).values()), [value])

    def refused_at_each_depth(self, error, value, statement):
        for depth in range(5):
            with self.subTest(depth):
                self.refused(error, value, nested(statement, depth))
                self.refused(error, value, nested(statement, depth, (GOOD,), (WRONG, ("oh",))))

    def malformed(self, statement):
        self.refused_at_each_depth(BadStatement, statement, statement)

    def too_large(self, most, statements, book):
        self.refused(TooLarge, most, statements, book)


class FormTest(BodyCase):
    def test_right_statements(self):
        for statement in RIGHT:
            for depth in range(4):
                statements = nested(statement, depth)
                self.assertEqual(Body(sample_book(), statements).statements, tuple(statements))

    def test_depth_4_and_5(self):
        for statement in RIGHT:
            if statement[0] not in ("if", "while", "when"):
                Body(sample_book(), nested(statement, 4))
            self.refused(BadStatement, statement, nested(statement, 5))
        Body(sample_book(), nested(("while", "more", ()), 4))
        self.refused(BadStatement, GOOD, nested(("while", "more", (GOOD,)), 4))
        self.refused(BadStatement, WRONG, nested(WRONG, 5))
        self.refused(BadStatement, GOOD, nested(("if", "more", (), (GOOD,)), 4))
        self.refused(BadStatement, nested(GOOD, 4)[0], nested(GOOD, 9))

    def test_class_values(self):
        self.assertEqual((Body.STATEMENTS, Body.DEPTH, Body.SIZE), (24, 4, 120))

    def test_other_first_part(self):
        for word in ("", "Do", "does", "answer", "out", "else", "end", None, 0):
            for statement in RIGHT:
                self.malformed((word, *statement[1:]))

    def test_a_word_with_the_form_of_another(self):
        self.malformed(("put", "work", None))
        self.malformed(("do", UNDO))
        self.malformed(("while", "more", (), ()))
        self.malformed(("if", "more", ()))
        self.malformed(("when", "more", (), ()))
        self.malformed(("return", "n", 1))
        self.malformed(("set", "n"))

    def test_a_part_too_many_or_too_few(self):
        for statement in RIGHT:
            self.malformed(statement[:-1])
            self.malformed(statement[:1])
            for part in (None, 1, ()):
                self.malformed((*statement, part))

    def test_empty_tuple(self):
        self.malformed(())

    def test_form_before_the_parts(self):
        self.malformed(("do", "missing"))
        self.malformed(("do", "missing", -1, None))
        self.malformed(("set", "missing", 1000, 1))
        self.malformed(("raise", "Bad", 1))


class PartsTest(BodyCase):
    def test_step(self):
        for step in ("missing", "n", "", "Work"):
            self.refused_at_each_depth(UnknownStep, step, ("do", step, None))

    def test_cell(self):
        for cell in ("missing", "work", "", "N"):
            self.refused_at_each_depth(UnknownCell, cell, ("do", "work", ("now", cell)))
            self.refused_at_each_depth(UnknownCell, cell, ("set", cell, 0))
            self.refused_at_each_depth(UnknownCell, cell, ("when", cell, 0, (), ()))
            self.refused_at_each_depth(UnknownCell, cell, ("return", ("now", cell)))
            self.refused_at_each_depth(UnknownCell, cell, ("put", ("done", "work", ("now", cell), ())))

    def test_name(self):
        for name in ("", "More", "a b", "1a", "a" * 13, "late n", "_"):
            self.refused_at_each_depth(BadName, name, ("if", name, (), ()))
            self.refused_at_each_depth(BadName, name, ("while", name, ()))
            self.refused_at_each_depth(BadName, name, ("leave", name))
            self.refused_at_each_depth(BadName, name, ("raise", name))

    def test_number(self):
        for number in (-1, 1000, HUGE, -HUGE):
            self.refused_at_each_depth(BadNumber, number, ("do", "work", number))
            self.refused_at_each_depth(BadNumber, number, ("return", number))
            self.refused_at_each_depth(BadNumber, number, ("put", ("done", "work", number, ())))

    def test_value_that_the_cell_cannot_have(self):
        for cell, numbers in (("n", (-1, 3, 999, 1000, HUGE)), ("a", (-1, 2, 3, 1000, -HUGE))):
            for number in numbers:
                self.refused_at_each_depth(BadNumber, number, ("set", cell, number))
                self.refused_at_each_depth(BadNumber, number, ("when", cell, number, (), ()))

    def test_tuple_with_another_word_than_now(self):
        for word in ("late", "", "Now", "n"):
            for cell in ("n", "missing"):
                self.malformed(("do", "work", (word, cell)))
                self.malformed(("return", (word, cell)))

    def test_action(self):
        inner = ("soon", "work", None, ())
        for action, refused in (
            (inner, inner),
            (("done", "work", ("soon", "n"), ()), ("done", "work", ("soon", "n"), ())),
            (("error", "work", None, (UNDO,)), ("error", "work", None, (UNDO,))),
            (("done", "work", None, (UNDO,) * 4), ("done", "work", None, (UNDO,) * 4)),
            (("done", "work", None, (UNDO, inner, WRONG)), inner),
        ):
            self.refused_at_each_depth(BadAction, refused, ("put", action))
        deep = ("done", "work", 2, (UNDO,))
        action = ("done", "work", 0, (("done", "work", 1, (deep,)),))
        self.refused_at_each_depth(BadAction, deep, ("put", action))
        self.refused_at_each_depth(UnknownStep, "missing", ("put", ("done", "missing", None, ())))
        self.refused_at_each_depth(UnknownCell, "missing", ("put", ("done", "work", ("late", "missing"), ())))
        self.refused_at_each_depth(BadNumber, 1000, ("put", ("done", "work", None, (("done", "undo", 1000, ()),))))


class OrderTest(BodyCase):
    def test_parts_from_left_to_right(self):
        for argument in (-1, ("late", "n"), ("now", "missing")):
            self.refused_at_each_depth(UnknownStep, "missing", ("do", "missing", argument))
        for value in (-1, 1000, 3):
            self.refused_at_each_depth(UnknownCell, "missing", ("set", "missing", value))
            self.refused_at_each_depth(UnknownCell, "missing", ("when", "missing", value, (), ()))

    def test_a_statement_before_its_blocks(self):
        for block in ((WRONG,), ((),), (GOOD, WRONG)):
            self.refused(BadName, "Bad", [("if", "Bad", block, block)])
            self.refused(BadName, "Bad", [("while", "Bad", block)])
            self.refused(UnknownCell, "missing", [("when", "missing", 1, block, block)])
            self.refused(BadNumber, 3, [("when", "n", 3, block, block)])
            statement = ("if", "more", block)
            self.refused(BadStatement, statement, [statement])
            statement = ("while", "more", block, ())
            self.refused(BadStatement, statement, [statement])

    def test_first_block_before_the_second_and_before_what_follows(self):
        first, second, third = ("raise", "First"), ("raise", "Second"), ("raise", "Third")
        for word, *parts in (("if", "more"), ("when", "n", 0)):
            self.refused(BadName, "First", [(word, *parts, (first,), (second,)), third])
            self.refused(BadName, "Second", [(word, *parts, (GOOD,), (second,)), third])
            self.refused(BadName, "Third", [(word, *parts, (GOOD,), (GOOD,)), third])
        self.refused(BadName, "First", [("while", "more", (GOOD, first)), second])
        self.refused(BadName, "First", [("while", "more", (("while", "more", (first,)), second)), third])

    def test_two_wrong_statements_at_once(self):
        wrong = (
            (UnknownStep, "missing", WRONG),
            (UnknownCell, "missing", ("set", "missing", 0)),
            (BadName, "Bad", ("while", "Bad", ())),
            (BadNumber, 1000, ("return", 1000)),
            (BadStatement, (), ()),
            (BadStatement, ("leave",), ("leave",)),
            (BadAction, ("soon", "work", None, ()), ("put", ("soon", "work", None, ()))),
        )
        for error, value, first in wrong:
            for _, _, second in wrong:
                self.refused(error, value, [GOOD, first, GOOD, second])
                self.refused(error, value, [("while", "more", (first,)), second])


class SizeTest(BodyCase):
    def test_24_and_25_statements(self):
        for cells in ((), (("n", 2),), (("n", 3),), (("n", 2), ("a", 2))):
            book = Book.of(*cells, work=("plain",))
            self.assertEqual(len(Body(book, [GOOD] * 24)), 24)
            self.too_large(24, [GOOD] * 25, book)
            self.too_large(24, [GOOD] * 30, book)

    def test_nested_statements_count(self):
        book = Book.of(work=("plain",))
        block = (GOOD,) * 5
        inner = [("if", "more", block, block), ("while", "more", (("when", "n", 0, block, ()),))]
        book.add_cell("n", 2)
        self.assertEqual(len(Body(book, [*inner, GOOD, GOOD, *block[:4]])), 24)
        self.too_large(24, [*inner, GOOD, GOOD, *block], book)

    def test_size_of_120(self):
        for cells, most in (
            ((("n", 2), ("a", 3)), 19), ((("n", 3), ("a", 2)), 19), ((("n", 3), ("a", 3)), 12),
        ):
            book = Book.of(*cells, work=("plain",))
            self.assertEqual(len(Body(book, [GOOD] * most)), most)
            self.too_large(120, [GOOD] * (most + 1), book)
            self.too_large(120, [GOOD] * 24, book)
            self.too_large(24, [GOOD] * 25, book)

    def test_wrong_statement_in_a_body_that_is_too_large(self):
        book = Book.of(("n", 3), ("a", 3), work=("plain",))
        for many in (13, 24, 25, 40):
            self.refused(UnknownStep, "missing", [GOOD] * many + [WRONG], book)
            self.refused(UnknownStep, "missing", [GOOD] * many + [("while", "more", (WRONG,))], book)


class FieldsTest(BodyCase):
    def test_statements_is_a_tuple(self):
        for statements in ([GOOD, UNDO_PUT], (GOOD, UNDO_PUT)):
            body = Body(book=sample_book(), statements=statements)
            self.assertEqual(body.statements, (GOOD, UNDO_PUT))
            self.assertIsInstance(body.statements, tuple)
            self.assertEqual(body.book, sample_book())
        self.assertEqual(Body(sample_book(), []).statements, ())

    def test_later_changes_have_no_effect(self):
        book, statements = sample_book(), [GOOD]
        body = Body(book, statements)
        statements.append(WRONG)
        book["work"] = ("jump", "away")
        book["more"] = ("plain",)
        self.assertEqual(body.statements, (GOOD,))
        self.assertEqual(body.book, sample_book())
        self.assertEqual(len(body), 1)
        self.assertEqual(body, Body(sample_book(), [GOOD]))

    def test_len(self):
        self.assertEqual(len(Body(sample_book(), [])), 0)
        statements = [("if", "more", (GOOD, GOOD), (("while", "more", (GOOD,)),)), GOOD]
        self.assertEqual(len(Body(sample_book(), statements)), 6)

    def test_call(self):
        body = Body(sample_book(), [("while", "more", (GOOD, ("put", DEEP)))])
        for text in ("", "0", "110", "11011", "1101100"):
            world = World.read(text)
            self.assertEqual(body(world), run(body, world))
        self.assertEqual(body(world=World.read("")), [])


class ActionsTest(BodyCase):
    def test_no_actions(self):
        self.assertEqual(Body(sample_book(), []).actions(), [])
        self.assertEqual(Body(sample_book(), [GOOD, ("while", "more", ())]).actions(), [])

    def test_reading_order(self):
        def numbered(number, further=()):
            return ("always", "work", number, further)
        tree = numbered(0, (numbered(1, (numbered(2), numbered(3))), numbered(4), numbered(5, (numbered(6),))))
        statements = [
            ("put", tree),
            ("if", "more", (("put", numbered(7)),), (("while", "more", (("put", numbered(8)),)),)),
            ("return", 0),
            ("when", "n", 0, (("put", numbered(9, (numbered(10),))),), (("put", numbered(11)),)),
            ("put", numbered(12)),
        ]
        found = Body(sample_book(), statements).actions()
        self.assertIsInstance(found, list)
        self.assertEqual([action[2] for action in found], list(range(13)))
        self.assertEqual(found[0], tree)
        self.assertEqual(found[9], numbered(9, (numbered(10),)))

    def test_as_they_are_written(self):
        body = Body(sample_book(), [("put", DEEP)])
        self.assertEqual(body.actions(), [DEEP, DEEP[3][0], UNDO, UNDO])

    def test_list_is_new(self):
        body = Body(sample_book(), [("put", DEEP)])
        body.actions().clear()
        self.assertEqual(len(body.actions()), 4)


class SumTest(BodyCase):
    def test_statements(self):
        first = Body(sample_book(), [GOOD, ("return", 1)])
        second = Body(sample_book(), [("leave", "x")])
        self.assertEqual((first + second).statements, (GOOD, ("return", 1), ("leave", "x")))
        self.assertEqual((second + first).statements, (("leave", "x"), GOOD, ("return", 1)))
        self.assertEqual(first.statements, (GOOD, ("return", 1)))
        self.assertEqual(second.statements, (("leave", "x"),))
        self.assertEqual(len(first + second), 3)
        empty = Body(sample_book(), [])
        self.assertEqual(first + empty, first)
        self.assertEqual(empty + first, first)

    def test_book_of_the_first(self):
        first = Body(Book.of(a=("plain",), b=("heal", 1)), [])
        second = Body(Book.of(b=("heal", 1), a=("plain",)), [])
        self.assertEqual(list((first + second).book), ["a", "b"])
        self.assertEqual(list((second + first).book), ["b", "a"])

    def test_book_is_a_copy(self):
        first, second = Body(sample_book(), [GOOD]), Body(sample_book(), [GOOD])
        total = first + second
        first.book["more"] = ("plain",)
        second.book["other"] = ("plain",)
        self.assertEqual(total.book, sample_book())

    def test_other_book(self):
        body = Body(sample_book(), [GOOD])
        changes = (
            Book.of(("n", 3), ("a", 2), work=("plain",)),
            Book.of(("n", 3), ("a", 2), work=("plain",), undo=("heal", 2)),
            Book.of(("n", 3), work=("plain",), undo=("heal", 1)),
            Book.of(("n", 3), ("a", 3), work=("plain",), undo=("heal", 1)),
        )
        for book in changes:
            other = Body(book, [GOOD] * 12)
            for first, second in ((body, other), (other, body), (Body(sample_book(), [GOOD] * 19), other)):
                with self.assertRaises(OtherBook) as caught:
                    first + second
                self.assertEqual(vars(caught.exception), {})

    def test_too_large(self):
        book = Book.of(work=("plain",))
        twelve = Body(book, [GOOD] * 12)
        self.assertEqual(len(twelve + twelve), 24)
        with self.assertRaises(TooLarge) as caught:
            twelve + Body(book, [GOOD] * 13)
        self.assertEqual(caught.exception.most, 24)
        ten = Body(sample_book(), [GOOD] * 10)
        self.assertEqual(len(ten + Body(sample_book(), [GOOD] * 9)), 19)
        with self.assertRaises(TooLarge) as caught:
            ten + ten
        self.assertEqual(caught.exception.most, 120)


class ProductTest(BodyCase):
    def products(self, body, count):
        return (body * count, count * body)

    def test_counts(self):
        body = Body(sample_book(), [GOOD, UNDO_PUT])
        for count in range(10):
            for product in self.products(body, count):
                self.assertEqual(product.statements, (GOOD, UNDO_PUT) * count)
                self.assertEqual(product.book, sample_book())
                self.assertEqual(len(product), 2 * count)
        self.assertEqual(body.statements, (GOOD, UNDO_PUT))

    def test_bad_counts(self):
        for statements in ([], [GOOD], [GOOD] * 19):
            body = Body(sample_book(), statements)
            for count in (-1, 10, 11, -10, HUGE, -HUGE):
                for deed in (lambda: body * count, lambda: count * body):
                    with self.assertRaises(BadNumber) as caught:
                        deed()
                    self.assertEqual(caught.exception.number, count)

    def test_too_large(self):
        for cells, many, count, most in (((), 3, 9, 24), ((("n", 3), ("a", 2)), 4, 5, 120)):
            body = Body(Book.of(*cells, work=("plain",)), [GOOD] * many)
            self.assertEqual(len(body * (count - 1)), many * (count - 1))
            for deed in (lambda: body * count, lambda: count * body):
                with self.assertRaises(TooLarge) as caught:
                    deed()
                self.assertEqual(caught.exception.most, most)

    def test_book(self):
        body = Body(Book.of(z=("plain",), a=("plain",)), [("do", "a", None)])
        for count in (0, 1, 2):
            for product in self.products(body, count):
                self.assertEqual(list(product.book), ["z", "a"])
        products = self.products(body, 1)
        body.book["new"] = ("plain",)
        for product in products:
            self.assertEqual(list(product.book), ["z", "a"])


class EqualTest(BodyCase):
    def test_equal(self):
        self.assertTrue(Body(sample_book(), [GOOD]) == Body(sample_book(), (GOOD,)))
        self.assertFalse(Body(sample_book(), [GOOD]) != Body(sample_book(), (GOOD,)))

    def test_books_with_their_steps_in_another_order(self):
        first = Body(Book.of(("n", 2), ("a", 3), a=("plain",), b=("plain",)), [("do", "a", None)])
        second = Body(Book.of(("a", 3), ("n", 2), b=("plain",), a=("plain",)), [("do", "a", None)])
        self.assertTrue(first == second)
        self.assertFalse(first != second)

    def test_different(self):
        body = Body(sample_book(), [GOOD, UNDO_PUT])
        larger = sample_book()
        larger["more"] = ("plain",)
        other_kind = sample_book()
        other_kind["undo"] = ("heal", 2)
        for other in (
            Body(sample_book(), [GOOD]),
            Body(sample_book(), [UNDO_PUT, GOOD]),
            Body(sample_book(), [GOOD, UNDO_PUT, UNDO_PUT]),
            Body(sample_book(), []),
            Body(larger, [GOOD, UNDO_PUT]),
            Body(other_kind, [GOOD, UNDO_PUT]),
            5, None, (GOOD, UNDO_PUT), sample_book(),
        ):
            self.assertFalse(body == other)
            self.assertTrue(body != other)


if __name__ == "__main__":
    unittest.main()
