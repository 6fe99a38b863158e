import unittest

from exitdeeds.charts import Chart
from exitdeeds.families import family
from exitdeeds.remainders import remainder
from exitdeeds.tables import table
from exitdeeds.worlds import World
from exitdeeds.writing import write_action
from tests.making import Maker, act, body_of, lines, sample_book
from tests.texts import LOOP


class TableTest(unittest.TestCase):
    def check(self, text, expected, *cells):
        self.assertEqual(list(table(family(body_of(text, *cells)))), expected)

    def test_the_example(self):
        self.check(LOOP, [
            "  0 test more...........   1   2",
            "  1 out return 1",
            "  2 do work.............   3   0",
            "    1 raise work: undo on error",
            "  3 out raise work",
        ])
        made = family(body_of(LOOP))
        self.assertEqual(len(list(table(chart=made))), 5)

    def test_the_empty_body(self):
        self.check("", ["  0 out return 0"])
        self.check("", ["  0 out return 0 0"], ("n", 3))
        self.check("leave x", ["  0 out leave x 0 0"], ("n", 3), ("a", 2))

    def test_puts_at_the_start(self):
        self.check("put work(7) on done", ["    s return 0: work(7) on done", "  0 out return 0"])
        self.check(
            lines("put undo on error", "put gain on always [work on done; undo(10) on error; turn on done]", "put cure on done"),
            ["    s return 0: undo on error; work on done; gain on done [undo(10) on error; turn on done]; "
             "gain on error; cure on done",
             "  0 out return 0"],
        )

    def test_values_of_the_store(self):
        text = lines("put work(late a) on done", "if b", "  set n 2", "  put gain(n) on done", "end", "return n")
        self.check(text, [
            "    s return 0 0 0: work(0) on done",
            "    s return 2 0 2: work(0) on done; gain(2) on done",
            "  0 test b..............   1   2",
            "  1 out return 0 0 0",
            "  2 out return 2 0 2",
        ], ("n", 3), ("a", 2))
        self.check(lines("put work(n) on done", "set n 1", "raise e"), ["  0 out raise e 1"], ("n", 3))

    def test_puts_behind_both_answers_for_several_leavings(self):
        text = lines("if a", "  put work on done", "else", "  put gain on done", "  put undo on done", "end",
                     "if b", "  leave x", "end")
        self.check(text, [
            "  0 test a..............   1   1",
            "    0 leave x: gain on done; undo on done",
            "    0 return 0: gain on done; undo on done",
            "    1 leave x: work on done",
            "    1 return 0: work on done",
            "  1 test b..............   2   3",
            "  2 out return 0",
            "  3 out leave x",
        ])

    def test_lines_of_puts_come_behind_their_row(self):
        text = lines("while a", "  put work on done", "  do gain(999)", "  put undo on done", "end")
        self.check(text, [
            "  0 test a..............   1   2",
            "    1 return 0: work on done; undo on done",
            "  1 out return 0",
            "  2 do gain(999)........   3   0",
            "  3 out raise gain",
        ])

    def test_numbers_of_two_digits(self):
        text = lines(*["do work"] * 10)
        found = list(table(family(body_of(text))))
        self.assertEqual(len(found), 12)
        self.assertEqual(found[0], "  0 do work.............   1   2")
        self.assertEqual(found[9], "  9 do work.............   1  10")
        self.assertEqual(found[10], " 10 do work.............   1  11")
        self.assertEqual(found[11], " 11 out return 0")

    def test_numbers_of_three_digits_and_more(self):
        rows = [(("test", "a"), (at + 1, ()), (1000, ())) for at in range(1000)] + [(("out", ("return", 0), ()),)]
        found = list(table(Chart(rows, ())))
        self.assertEqual(found[100], "100 test a.............. 1011000")
        self.assertEqual(found[1000], "1000 out return 0")

    def test_long_asks(self):
        book = sample_book()
        book["abcdefghijkl"] = ("plain",)
        rows = [(("do", "abcdefghijkl", 999), (0, ()), (1, ())), (("test", "abcdefghijkl"), (0, ()), (1, ())),
                (("do", "abcdefghijkl", None), (0, ()), (1, ())), (("do", "abcdefghijklm", 999), (0, ()), (12, ()))]
        self.assertEqual(list(table(Chart(rows, ()))), [
            "  0 do abcdefghijkl(999)   0   1",
            "  1 test abcdefghijkl...   0   1",
            "  2 do abcdefghijkl.....   0   1",
            # Longer than 20 columns: nothing is cut off.
            "  3 do abcdefghijklm(999)   0  12",
        ])

    def test_of_a_remainder(self):
        made = remainder(family(body_of(LOOP)), sample_book(), World.read("11"))
        self.assertEqual(list(table(made))[:2], ["    s raise work: undo on error", "  0 test more...........   1   2"])

    def test_every_row_and_every_word_has_its_line(self):
        for seed in range(150):
            made = family(Maker(seed).body())
            found = list(table(made))
            puts = [made.start] + [pair[1] for row in made for pair in row[1:]]
            words = [word for entry in puts for _, word in entry]
            self.assertEqual(len(found), len(made) + len(words))
            self.assertEqual([line.split(": ", 1)[1] for line in found if ": " in line],
                             ["; ".join(map(write_action, word)) for word in words])
            numbers = [int(line[:3]) for line in found if ": " not in line]
            self.assertEqual(numbers, list(range(len(made))))

    def test_the_chart_is_not_changed(self):
        made = family(body_of("put work on done"))
        list(table(made))
        self.assertEqual(made.start, (((("return", 0), ()), (act("done", "work"),)),))


if __name__ == "__main__":
    unittest.main()
