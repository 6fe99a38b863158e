import unittest

from exitdeeds.bodies import Body
from exitdeeds.books import Book
from exitdeeds.writing import write, write_action, write_leaving


def act(guard, step, argument=None, *further):
    return (guard, step, argument, further)


SIGN = act("always", "sign")
UNDO = act("error", "undo", 7)


class WriteCase(unittest.TestCase):
    def check(self, lines, *statements):
        book = Book.of(("n", 3), ("late", 2), sign=("plain",), undo=("plain",), seal=("plain",))
        self.assertEqual(write(Body(book, statements)), "\n".join(lines))


class ActionTest(unittest.TestCase):
    def test_guards(self):
        for guard in ("done", "error", "always"):
            self.assertEqual(write_action(act(guard, "sign")), "sign on " + guard)

    def test_arguments(self):
        for argument, text in (
            (0, "(0)"), (7, "(7)"), (10, "(10)"), (999, "(999)"), (None, ""), (("now", "n"), "(n)"),
            (("late", "n"), "(late n)"), (("now", "late"), "(late)"), (("late", "late"), "(late late)"),
        ):
            self.assertEqual(write_action(act("done", "seal", argument)), f"seal{text} on done")

    def test_further_actions(self):
        self.assertEqual(write_action(act("done", "seal", None, SIGN)), "seal on done [sign on always]")
        self.assertEqual(
            write_action(action=act("done", "seal", 1, UNDO, SIGN, UNDO)),
            "seal(1) on done [undo(7) on error; sign on always; undo(7) on error]",
        )

    def test_two_deep(self):
        inner = act("done", "undo", ("late", "n"), SIGN, UNDO)
        self.assertEqual(
            write_action(act("always", "seal", ("now", "n"), inner, SIGN, inner)),
            "seal(n) on always [undo(late n) on done [sign on always; undo(7) on error]; sign on always; "
            "undo(late n) on done [sign on always; undo(7) on error]]",
        )

    def test_example(self):
        self.assertEqual(
            write_action(act("done", "seal", ("late", "n"), UNDO, SIGN)),
            "seal(late n) on done [undo(7) on error; sign on always]",
        )


class StatementTest(WriteCase):
    def test_empty_body(self):
        self.check([])
        self.assertEqual(write(body=Body(Book(), [])), "")

    def test_do(self):
        self.check(["do sign"], ("do", "sign", None))
        self.check(["do sign(0)"], ("do", "sign", 0))
        self.check(["do undo(999)"], ("do", "undo", 999))
        self.check(["do undo(n)"], ("do", "undo", ("now", "n")))
        self.check(["do undo(late)"], ("do", "undo", ("now", "late")))

    def test_put(self):
        self.check(["put sign on always"], ("put", SIGN))
        self.check(["put seal(n) on done [undo(7) on error]"], ("put", act("done", "seal", ("now", "n"), UNDO)))

    def test_set(self):
        self.check(["set n 0"], ("set", "n", 0))
        self.check(["set late 1"], ("set", "late", 1))

    def test_leaving(self):
        self.check(["return 0"], ("return", 0))
        self.check(["return 999"], ("return", 999))
        self.check(["return n"], ("return", ("now", "n")))
        self.check(["leave end"], ("leave", "end"))
        self.check(["raise sign"], ("raise", "sign"))

    def test_lines(self):
        self.check(["do sign", "set n 2", "return n"], ("do", "sign", None), ("set", "n", 2), ("return", ("now", "n")))


class BlockTest(WriteCase):
    def test_empty_blocks(self):
        self.check(["while more", "end"], ("while", "more", ()))
        self.check(["if more", "end"], ("if", "more", (), ()))
        self.check(["when n is 2", "end"], ("when", "n", 2, (), ()))

    def test_blocks(self):
        one, two = ("do", "sign", None), ("put", SIGN)
        first, second = "  do sign", "  put sign on always"
        self.check(["while more", first, second, "end"], ("while", "more", (one, two)))
        for line, *parts in (("if more", "if", "more"), ("when late is 0", "when", "late", 0)):
            self.check([line, first, second, "end"], (*parts, (one, two), ()))
            self.check([line, first, "else", second, "end"], (*parts, (one,), (two,)))
            self.check([line, "else", first, second, "end"], (*parts, (), (one, two)))
            self.check([line, "end", "do sign"], (*parts, (), ()), one)

    def test_nested_blocks(self):
        leave = ("leave", "x")
        deep = ("when", "n", 1, (("while", "d", ()),), (leave, leave))
        middle = ("while", "c", (("if", "e", (), (deep,)), ("do", "sign", 1)))
        self.check(
            [
                "if a",
                "  while c",
                "    if e",
                "    else",
                "      when n is 1",
                "        while d",
                "        end",
                "      else",
                "        leave x",
                "        leave x",
                "      end",
                "    end",
                "    do sign(1)",
                "  end",
                "else",
                "  while b",
                "  end",
                "  leave x",
                "end",
                "return 0",
            ],
            ("if", "a", (middle,), (("while", "b", ()), leave)), ("return", 0),
        )

    def test_deepest_block(self):
        statement = ("set", "n", 1)
        lines = ["        set n 1"]
        for depth in (3, 2, 1, 0):
            statement = ("if", "more", (statement,), ())
            indent = "  " * depth
            lines = [indent + "if more", *lines, indent + "end"]
        self.check(lines, statement)

    def test_example(self):
        self.check(
            ["while more", "  do sign", "  put undo(7) on error", "end", "return 1"],
            ("while", "more", (("do", "sign", None), ("put", UNDO))), ("return", 1),
        )


class LeavingTest(unittest.TestCase):
    def test_exits(self):
        self.assertEqual(write_leaving((("return", 0), ())), "return 0")
        self.assertEqual(write_leaving((("return", 999), ())), "return 999")
        self.assertEqual(write_leaving((("leave", "home"), ())), "leave home")
        self.assertEqual(write_leaving((("raise", "sign"), ())), "raise sign")

    def test_stores(self):
        self.assertEqual(write_leaving(leaving=(("return", 3), (0, 1))), "return 3 0 1")
        self.assertEqual(write_leaving((("leave", "home"), (2,))), "leave home 2")
        self.assertEqual(write_leaving((("raise", "sign"), (2, 0))), "raise sign 2 0")


if __name__ == "__main__":
    unittest.main()
