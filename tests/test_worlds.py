import unittest
from itertools import product

from exitdeeds.errors import BadNumber, BadWorld
from exitdeeds.worlds import World, worlds

HUGE = 10 ** 5000
ROWS = [row for length in range(5) for row in product((0, 1), repeat=length)]


class WorldCase(unittest.TestCase):
    def refused(self, at, deed):
        with self.assertRaises(BadWorld) as caught:
            deed()
        self.assertEqual(vars(caught.exception), {"at": at})


class AnswersTest(WorldCase):
    def test_lists_and_tuples(self):
        for row in ROWS:
            for world in (World(row), World(list(row)), World(answers=row)):
                self.assertEqual(world.answers, row)
                self.assertIsInstance(world.answers, tuple)
                self.assertEqual(len(world), len(row))
                self.assertEqual(list(world), list(row))

    def test_long_rows(self):
        row = (1, 0, 0) * 4000
        self.assertEqual(World(row).answers, row)
        self.assertEqual(World.read("100" * 4000).answers, row)

    def test_later_changes_have_no_effect(self):
        row = [0, 1]
        world = World(row)
        row.append(5)
        row[0] = 1
        self.assertEqual(world.answers, (0, 1))

    def test_wrong_answers(self):
        for wrong in (-1, 2, 3, HUGE, -HUGE):
            for length in (1, 2, 5):
                for at in range(length):
                    row = [1, 0, 1, 0, 1][:length]
                    row[at] = wrong
                    self.refused(at, lambda: World(row))
                    self.refused(at, lambda: World(tuple(row)))

    def test_first_wrong_answer(self):
        self.refused(0, lambda: World((2, 0, 3)))
        self.refused(1, lambda: World([0, -1, 2]))
        self.refused(2, lambda: World([0, 1, 7, 7, 7]))


class TextTest(WorldCase):
    def test_read_and_text(self):
        for row in ROWS:
            text = "".join(map(str, row))
            self.assertEqual(World.read(text).answers, row)
            self.assertEqual(World.read(text=text), World(row))
            self.assertEqual(World(row).text, text)

    def test_wrong_characters(self):
        for wrong in (" ", "2", "9", "-", "a", "o", "\n", "\t", "_", "+", ".", "O", "l"):
            for length in (1, 2, 5):
                for at in range(length):
                    text = "10101"[:length]
                    text = text[:at] + wrong + text[at + 1:]
                    self.refused(at, lambda: World.read(text))

    def test_first_wrong_character(self):
        self.refused(0, lambda: World.read("x0y"))
        self.refused(1, lambda: World.read("1-1"))
        self.refused(2, lambda: World.read("01ab"))
        self.refused(2, lambda: World.read("01\n"))


class SumTest(WorldCase):
    def test_sum(self):
        for first in ROWS:
            for second in ROWS:
                left, right = World(first), World(second)
                self.assertEqual((left + right).answers, first + second)
                self.assertEqual((left.answers, right.answers), (first, second))


class OrderTest(WorldCase):
    def test_all_six_comparisons(self):
        for at, first in enumerate(ROWS):
            for place, second in enumerate(ROWS):
                left, right = World(first), World(second)
                self.assertIs(left == right, at == place)
                self.assertIs(left != right, at != place)
                self.assertIs(left < right, at < place)
                self.assertIs(left <= right, at <= place)
                self.assertIs(left > right, at > place)
                self.assertIs(left >= right, at >= place)
                self.assertIs(left.__lt__(right), at < place)
                self.assertIs(left.__le__(right), at <= place)
                self.assertIs(left.__gt__(right), at > place)
                self.assertIs(left.__ge__(right), at >= place)

    def test_a_shorter_world_is_less(self):
        self.assertTrue(World.read("111") < World.read("0000"))
        self.assertTrue(World.read("0000") > World.read("111"))
        self.assertTrue(World.read("") < World.read("0"))

    def test_first_difference(self):
        self.assertTrue(World.read("0111") < World.read("1000"))
        self.assertTrue(World.read("1010") > World.read("1001"))

    def test_other_kinds(self):
        world = World((0, 1))
        for other in ((0, 1), [0, 1], "01", None, 1):
            self.assertFalse(world == other)
            self.assertTrue(world != other)
            for word in ("__lt__", "__le__", "__gt__", "__ge__"):
                self.assertIs(getattr(world, word)(other), NotImplemented)

    def test_sorted(self):
        shuffled = [World(row) for row in ROWS[::-1]]
        self.assertEqual([world.answers for world in sorted(shuffled)], ROWS)


class WorldsTest(WorldCase):
    def test_ascending(self):
        for longest in (0, 1, 3, 4):
            rows = [row for row in ROWS if len(row) <= longest]
            self.assertEqual([world.answers for world in worlds(longest)], rows)
        self.assertEqual([world.text for world in worlds(longest=1)], ["", "0", "1"])
        for world in worlds(2):
            self.assertIsInstance(world, World)

    def test_ten(self):
        found = list(worlds(10))
        self.assertEqual(len(found), 2047)
        self.assertEqual(found[-1].text, "1" * 10)
        self.assertTrue(all(first < second for first, second in zip(found, found[1:])))

    def test_bad_numbers_when_the_iteration_starts(self):
        for longest in (-1, 11, -10, HUGE, -HUGE):
            iteration = worlds(longest)
            with self.assertRaises(BadNumber) as caught:
                next(iteration)
            self.assertEqual(caught.exception.number, longest)

    def test_two_iterations(self):
        first, second = worlds(2), worlds(2)
        next(first)
        next(first)
        self.assertEqual(next(second).text, "")
        self.assertEqual(next(first).text, "1")


if __name__ == "__main__":
    unittest.main()
