import unittest

from exitdeeds.bodies import Body
from exitdeeds.books import Book
from exitdeeds.errors import BadAction, BadLine, BadNumber, TooLarge, UnknownCell, UnknownStep
from exitdeeds.reading import read
from exitdeeds.writing import write
from tests.making import Maker, act, lines


def sample_book():
    return Book.of(
        ("n", 3), ("late", 2), sign=("plain",), undo=("heal", 1), late=("plain",), end=("plain",), on=("plain",),
    )


class ReadCase(unittest.TestCase):
    def check(self, statements, *rows):
        body = read(sample_book(), lines(*rows))
        self.assertEqual(body.statements, tuple(statements))
        self.assertIsInstance(body, Body)

    def refused(self, number, *rows, book=None):
        with self.assertRaises(BadLine) as caught:
            read(sample_book() if book is None else book, lines(*rows))
        self.assertEqual(caught.exception.line, number, rows)
        return caught.exception.__cause__

    def malformed(self, row):
        """The line is wrong in its form, wherever it stands."""
        self.assertIsNone(self.refused(1, row))
        self.assertIsNone(self.refused(1, row, "do missing"))
        self.assertIsNone(self.refused(3, "do sign", "if more", "  " + row, "end"))

    def refused_part(self, error, value, row, *behind):
        """The line has a right form, but a part of it is refused."""
        for number, rows in ((1, (row,)), (3, ("do sign", "while more", "  " + row))):
            cause = self.refused(number, *rows, *behind)
            self.assertIs(cause.__class__, error)
            self.assertEqual(list(vars(cause).values()), [value])


class StatementTest(ReadCase):
    def test_empty_text(self):
        body = read(text="", book=sample_book())
        self.assertEqual(body, Body(sample_book(), []))

    def test_do(self):
        for text, argument in (("", None), ("(0)", 0), ("(7)", 7), ("(10)", 10), ("(999)", 999), ("(n)", ("now", "n"))):
            self.check([("do", "sign", argument)], "do sign" + text)

    def test_put_with_each_argument_and_guard(self):
        for guard in ("done", "error", "always"):
            for text, argument in (
                ("", None), ("(0)", 0), ("(999)", 999), ("(n)", ("now", "n")), ("(late n)", ("late", "n")),
            ):
                self.check([("put", act(guard, "undo", argument))], f"put undo{text} on {guard}")

    def test_further_actions(self):
        undo, sign = act("error", "undo", 7), act("always", "sign")
        self.check([("put", act("done", "sign", None, sign))], "put sign on done [sign on always]")
        self.check(
            [("put", act("always", "sign", 1, undo, sign, undo))],
            "put sign(1) on always [undo(7) on error; sign on always; undo(7) on error]",
        )

    def test_two_deep(self):
        first = act("always", "undo", ("now", "n"), act("done", "sign", ("late", "n")), act("error", "undo"))
        second = act("done", "undo", None, act("done", "sign"))
        self.check(
            [("put", act("done", "sign", None, first, act("error", "on"), second))],
            "put sign on done [undo(n) on always [sign(late n) on done; undo on error]; on on error; "
            "undo on done [sign on done]]",
        )

    def test_set_and_ways_to_leave(self):
        self.check([("set", "n", 2), ("set", "late", 0)], "set n 2", "set late 0")
        self.check([("return", 0)], "return 0")
        self.check([("return", 999)], "return 999")
        self.check([("return", ("now", "n"))], "return n")
        self.check([("leave", "home"), ("raise", "sign")], "leave home", "raise sign")

    def test_no_word_is_reserved(self):
        self.check([("do", "late", ("now", "late"))], "do late(late)")
        self.check([("put", act("done", "on", ("late", "late")))], "put on(late late) on done")
        self.check([("put", act("error", "on")), ("do", "end", None)], "put on on error", "do end")
        self.check([("leave", "end"), ("raise", "else"), ("return", ("now", "late"))],
                   "leave end", "raise else", "return late")
        self.check([("while", "end", (("if", "else", (), ()),))], "while end", "if else", "end", "end")
        book = Book.of(("is", 2), ("set", 3))
        body = read(book, lines("when is is 1", "end", "set set 2"))
        self.assertEqual(body.statements, (("when", "is", 1, (), ()), ("set", "set", 2)))

    def test_book_is_a_copy(self):
        book = sample_book()
        body = read(book, "do sign")
        book["sign"] = ("heal", 3)
        self.assertEqual(body.book, sample_book())


class BlockTest(ReadCase):
    def test_empty_blocks(self):
        self.check([("while", "more", ())], "while more", "end")
        self.check([("if", "more", (), ())], "if more", "end")
        self.check([("when", "n", 2, (), ())], "when n is 2", "end")

    def test_else(self):
        one, two = ("do", "sign", None), ("do", "undo", None)
        for row, *parts in (("if more", "if", "more"), ("when n is 0", "when", "n", 0)):
            self.check([(*parts, (one, two), ())], row, "  do sign", "  do undo", "end")
            self.check([(*parts, (one,), (two,))], row, "  do sign", "else", "  do undo", "end")
            self.check([(*parts, (), (one, two))], row, "else", "  do sign", "  do undo", "end")

    def test_else_before_an_empty_second_block(self):
        self.check([("if", "more", (("do", "sign", None),), ())], "if more", "  do sign", "else", "end")
        self.check([("when", "n", 1, (), ()), ("leave", "x")], "when n is 1", "else", "end", "leave x")

    def test_nested(self):
        inner = ("if", "b", (("while", "c", (("leave", "x"),)),), (("set", "n", 1),))
        self.check(
            [("while", "a", (inner, ("do", "sign", None))), ("return", 1)],
            "while a", "  if b", "    while c", "      leave x", "    end", "  else", "    set n 1", "  end",
            "  do sign", "end", "return 1",
        )

    def test_other_indents(self):
        statements = [("if", "more", (("do", "sign", None),), (("do", "undo", None),)), ("return", 1)]
        self.check(statements, "if more", "do sign", "else", "do undo", "end", "return 1")
        self.check(statements, "   if more", " do sign", "       else", "do undo", " end", "          return 1")

    def test_depth_4(self):
        statement = ("while", "more", ())
        for _ in range(4):
            statement = ("while", "more", (statement,))
        self.check([statement], *["while more"] * 5, *["end"] * 5)


class FormTest(ReadCase):
    def test_another_word(self):
        for row in ("does sign", "Do sign", "else if", "elif more", "leaves x", "unless more", "x", "ends", "end end",
                    "else else", "put", "do", "if", "while", "when", "set", "return", "leave", "raise"):
            self.malformed(row)

    def test_a_part_too_many_or_too_few(self):
        for row in ("do sign undo", "put sign", "put sign on", "put sign done", "put sign on done done", "put on done",
                    "set n", "set n 1 1", "if more more", "while more x", "when n 1", "when n is", "when is 1",
                    "when n is 1 1", "return 1 1", "return n n", "leave x y", "raise x y", "put sign on done on done",
                    "do sign()", "do (1)", "do sign(1", "do sign 1", "do sign(1)(1)", "do sign)", "do sign(n, n)"):
            self.malformed(row)

    def test_spaces(self):
        for row in ("do  sign", "set n  1", "set  n 1", "if  more", "put sign  on done", "put sign on  done",
                    "when n  is 1", "when n is  1", "return  1", "leave  x", "do sign (1)", "do sign( 1)",
                    "do sign(1 )", "put sign(late  n) on done", "put sign on done  [undo on done]",
                    "put sign on done[undo on done]", "put sign on done [ undo on done]",
                    "put sign on done [undo on done ]", "put sign on done [undo on done;undo on done]",
                    "put sign on done [undo on done;  undo on done]", "put sign on done [undo on done ; undo on done]"):
            self.malformed(row)

    def test_a_space_at_the_end(self):
        for row in ("do sign", "put sign on done", "put sign on done [undo on done]", "set n 1", "if more",
                    "while more", "when n is 1", "return 1", "return n", "leave x", "raise x"):
            self.malformed(row + " ")
        self.assertIsNone(self.refused(2, "if more", "end "))
        self.assertIsNone(self.refused(2, "if more", "else ", "end"))

    def test_empty_lines_and_lines_of_spaces(self):
        for row in ("", " ", "    "):
            self.assertIsNone(self.refused(2, "do sign", row))
            self.assertIsNone(self.refused(2, "do sign", row, "do sign"))
            self.assertIsNone(self.refused(2, "while more", row, "end"))
        self.assertIsNone(self.refused(1, " "))
        self.assertIsNone(self.refused(1, "", ""))
        self.assertIsNone(self.refused(1, "", "do sign"))

    def test_other_white_space(self):
        for row in ("do\tsign", "\tdo sign", "do sign\t", "do sign\r", "\x0bdo sign"):
            self.malformed(row)

    def test_numbers(self):
        for number in ("00", "01", "007", "1000", "0000", "-1", "+1", "1_0", "1.0", "0x1", ""):
            for row in ("do sign({})", "put sign({}) on done", "put sign on done [undo({}) on done]",
                        "set n {}", "return {}", "when n is {}"):
                self.malformed(row.format(number))

    def test_names(self):
        for name in ("", "Sign", "1a", "a_b", "a" * 13, "a-b", "s!"):
            for row in ("do {}", "do sign({})", "put {} on done", "put sign({}) on done", "put sign(late {}) on done",
                        "put sign on done [{} on done]", "set {} 1", "if {}", "while {}", "when {} is 1", "return {}",
                        "leave {}", "raise {}"):
                self.malformed(row.format(name))
        self.assertEqual(read(sample_book(), "leave " + "a" * 12).statements, (("leave", "a" * 12),))

    def test_a_name_for_a_number(self):
        for row in ("set n n", "set n late", "when n is n", "leave 1", "if 1"):
            self.malformed(row)

    def test_late_argument_of_do(self):
        for row in ("do sign(late n)", "do sign(late late)", "do missing(late n)", "return late n", "set late n 1"):
            self.malformed(row)

    def test_another_guard(self):
        for guard in ("never", "Done", "errors", "leave", "1", "done]"):
            self.malformed(f"put sign on {guard}")
            self.malformed(f"put sign on done [undo on {guard}]")

    def test_brackets(self):
        for row in ("put sign on done []", "put sign on done [undo on done", "put sign on done undo on done]",
                    "put sign on done [undo on done]]", "put sign on done [[undo on done]]",
                    "put sign on done [undo on done; ]", "put sign on done [; undo on done]",
                    "put sign on done [undo on done] [undo on done]", "put sign on done [undo on done]; undo on done",
                    "put sign [undo on done] on done", "put sign on done; undo on done"):
            self.malformed(row)

    def test_a_bracket_that_is_not_closed(self):
        for row in ("do sign(12", "do sign(nn", "do sign(12]", "put sign(12 on done", "put sign(late nn on done",
                    "put sign on done [undo on donee", "put sign on done [undo on done)",
                    "put sign on done [sign on done [undo on done]", "put sign on done [undo(12 on done]"):
            self.malformed(row)

    def test_a_character_before_the_line(self):
        for code in range(33, 127):
            for row in ("do sign", "if more", "put sign on done", "leave x"):
                self.malformed(chr(code) + row)

    def test_brackets_more_than_2_deep(self):
        self.malformed("put sign on done [undo on done [undo on done [sign on done]]]")
        self.malformed("put sign on done [undo on done; undo on done [sign on done; undo on error [sign on done]]]")
        self.malformed("put sign on done [undo on done [undo on done []]]")

    def test_else_and_end_without_an_open_statement(self):
        for row in ("else", "end", "  end"):
            self.assertIsNone(self.refused(1, row))
            self.assertIsNone(self.refused(3, "if more", "end", row))

    def test_else_for_a_while(self):
        self.assertIsNone(self.refused(2, "while more", "else", "end"))
        self.assertIsNone(self.refused(4, "if more", "while more", "do sign", "else", "end", "end"))
        self.check([("if", "more", (("while", "more", ()),), ())], "if more", "while more", "end", "else", "end")

    def test_second_else(self):
        self.assertIsNone(self.refused(3, "if more", "else", "else", "end"))
        self.assertIsNone(self.refused(5, "when n is 1", "do sign", "else", "do sign", "else", "end"))
        self.assertIsNone(self.refused(6, "if more", "else", "if more", "else", "end", "else", "end"))

    def test_depth_5(self):
        for row in ("do sign", "while more", "do missing", "set n 7"):
            self.assertIsNone(self.refused(6, *["if more"] * 5, row, *["end"] * 5))
            self.assertIsNone(self.refused(7, *["if more"] * 5, "else", row, *["end"] * 5))

    def test_still_open_at_the_end(self):
        for rows in (["if more"], ["while more", "do sign"], ["when n is 1", "else"], ["if a", "if b", "end"],
                     ["do sign"] * 30 + ["if more"]):
            self.assertIsNone(self.refused(len(rows) + 1, *rows))


class PartTest(ReadCase):
    def test_unknown_step(self):
        self.refused_part(UnknownStep, "missing", "do missing")
        self.refused_part(UnknownStep, "missing", "put missing on done")
        self.refused_part(UnknownStep, "missing", "put sign on done [undo on done; undo on done [missing on done]]")
        self.refused_part(UnknownStep, "n", "do n")

    def test_unknown_cell(self):
        for row in ("do sign({})", "put sign({}) on done", "put sign(late {}) on done", "set {} 1", "when {} is 1",
                    "put sign on done [sign({}) on error]", "return {}"):
            self.refused_part(UnknownCell, "missing", row.format("missing"))
            self.refused_part(UnknownCell, "sign", row.format("sign"))

    def test_value_that_the_cell_cannot_have(self):
        for row in ("set n {}", "when n is {}"):
            self.refused_part(BadNumber, 3, row.format(3))
            self.refused_part(BadNumber, 999, row.format(999))
        self.refused_part(BadNumber, 2, "set late 2")

    def test_bad_action(self):
        inner = act("error", "undo", None, act("done", "sign"))
        self.refused_part(BadAction, inner, "put undo on error [sign on done]")
        self.refused_part(BadAction, inner, "put sign on done [undo on error [sign on done]]")
        four = act("done", "undo", None, *[act("done", "sign")] * 4)
        further = "undo on done [" + "; ".join(["sign on done"] * 4) + "]"
        self.refused_part(BadAction, four, "put " + further)
        self.refused_part(BadAction, four, f"put sign on always [{further}]")

    def test_left_to_right(self):
        self.refused_part(UnknownStep, "missing", "do missing(none)")
        self.refused_part(UnknownCell, "none", "set none 7")
        self.refused_part(UnknownStep, "missing", "put missing(none) on error [sign on done]")

    def test_the_first_wrong_line_is_told(self):
        self.assertIsInstance(self.refused(1, "do missing", "do  sign"), UnknownStep)
        self.assertIsNone(self.refused(1, "do  sign", "do missing"))
        self.assertIsInstance(self.refused(2, "if more", "set n 3", "do none", "else", "else", "end"), BadNumber)
        self.assertIsNone(self.refused(2, "while more", "else", "do missing"))
        self.assertIsInstance(self.refused(1, "when none is 1", "do missing"), UnknownCell)
        self.assertIsInstance(self.refused(2, "if more", "do missing"), UnknownStep)

    def test_the_form_of_the_whole_line_goes_first(self):
        for row in ("do missing(1", "do missing(01)", "put missing on never", "put sign(none) on done [undo on done",
                    "put undo on error [sign on done; sign on maybe]", "set none 01", "set missing 1000",
                    "when none is x", "put missing on done [sign on done [sign on done [sign on done]]]",
                    "put missing on done [sign on done; sign on  done]"):
            self.malformed(row)

    def test_a_part_is_refused_before_the_end_of_the_text_is_looked_at(self):
        self.assertIsInstance(self.refused(2, "if more", "set n 9"), BadNumber)


class SizeTest(ReadCase):
    def too_large(self, most, rows, book):
        with self.assertRaises(TooLarge) as caught:
            read(book, lines(*rows))
        self.assertEqual(caught.exception.most, most)
        self.assertIsNone(caught.exception.__cause__)

    def test_24_and_25_statements(self):
        book = Book.of(sign=("plain",))
        self.assertEqual(len(read(book, lines(*["do sign"] * 24))), 24)
        self.too_large(24, ["do sign"] * 25, book)
        self.assertEqual(len(read(book, lines(*["if more", "do sign", "else", "do sign", "end"] * 8))), 24)
        self.too_large(24, ["if more", "do sign", "else", "do sign", "end"] * 8 + ["do sign"], book)

    def test_size_of_120(self):
        for cells, most in (((("n", 3), ("a", 2)), 19), ((("n", 3), ("a", 3)), 12)):
            book = Book.of(*cells, sign=("plain",))
            self.assertEqual(len(read(book, lines(*["do sign"] * most))), most)
            self.too_large(120, ["do sign"] * (most + 1), book)
            self.too_large(24, ["do sign"] * 25, book)

    def test_wrong_lines_go_first(self):
        book = Book.of(sign=("plain",))
        rows = ["do sign"] * 30
        self.assertIsInstance(self.refused(31, *rows, "do missing", book=book), UnknownStep)
        self.assertIsNone(self.refused(31, *rows, "end", book=book))
        self.assertIsNone(self.refused(32, *rows, "while more", book=book))


class RoundTripTest(unittest.TestCase):
    def test_from_a_body_to_its_text_and_back(self):
        for seed in range(300):
            maker = Maker(seed)
            body = maker.body()
            text = write(body)
            self.assertEqual(read(maker.book, text), body)
            self.assertEqual(write(read(maker.book, text)), text)

    def test_from_a_text_to_its_body_and_back(self):
        for text in (
            "", "do sign", "return late",
            lines("while more", "  do sign(3)", "  if on", "  else", "    leave x", "  end", "end"),
            lines("when n is 2", "  put on(late n) on always [on on done [on(late) on error; on on done]]", "else",
                  "  set late 1", "end", "raise end"),
        ):
            self.assertEqual(write(read(sample_book(), text)), text)


if __name__ == "__main__":
    unittest.main()
