import itertools
import unittest

from exitdeeds.covers import cover
from exitdeeds.plans import plan
from exitdeeds.worlds import World
from tests.making import Maker, body_of, lines
from tests.texts import ALIKE, DIFFERENT, LOOP


def met_by(chart, world):
    """The rows that the world meets."""
    row, met = 0, {0}
    for answer in world:
        if not chart.targets(row):
            break
        row = chart.targets(row)[answer]
        met.add(row)
    return met


def reached_from(chart, row):
    found, waiting = {row}, [row]
    while waiting:
        for target in chart.targets(waiting.pop()):
            if target not in found:
                found.add(target)
                waiting.append(target)
    return found


class CoverTest(unittest.TestCase):
    def check(self, body):
        """Return how many worlds there are."""
        chart = plan(body)
        found = cover(body)
        self.assertIsInstance(found, tuple)
        worlds, rows = found
        self.assertIsInstance(worlds, list)
        self.assertIsInstance(rows, list)
        self.assertEqual(len(worlds), len(rows))
        for world in worlds:
            self.assertIsInstance(world, World)
        self.assertEqual(set().union(*[met_by(chart, world) for world in worlds]), set(range(len(chart))))
        self.assertEqual(rows, sorted(set(rows)))
        below = {row: reached_from(chart, row) for row in rows}
        for one, two in itertools.permutations(rows, 2):
            self.assertNotIn(two, below[one])
        return len(rows)

    def check_text(self, many, text, *cells):
        self.assertEqual(self.check(body_of(text, *cells)), many)

    def test_the_example(self):
        self.check_text(2, LOOP)
        self.assertEqual(cover(body=body_of(LOOP))[1], [1, 3])

    def test_the_empty_body(self):
        self.assertEqual(cover(body_of("")), ([World(())], [0]))
        self.check_text(1, "put work on done", ("n", 3))

    def test_one_way(self):
        self.check_text(1, lines("if a", "end"))
        self.check_text(1, lines("if a", "end", "if b", "end", "leave x"))
        self.check_text(1, lines("while a", "end"))
        self.check_text(1, lines("while a", "  while b", "    if c", "    end", "  end", "end", "while a", "end"))

    def test_choices(self):
        self.check_text(2, "do work")
        self.check_text(3, lines("do work", "do undo"))
        self.check_text(2, lines("do work", "do work"))
        self.check_text(2, lines("if a", "  if b", "  end", "else", "  if c", "  end", "end"))
        self.check_text(8, lines("if a", "  if b", "    return 1", "  end", "  leave b",
                                 "else", "  if c", "    if d", "      return 2", "    else", "      return 3", "    end",
                                 "  end", "  if e", "    return 4", "  end", "  if e", "    return 5", "  end", "  do work",
                                 "end"))

    def test_loops(self):
        self.check_text(1, lines("while a", "  if b", "  else", "    if c", "    end", "  end", "end"))
        self.check_text(4, lines("while a", "  if b", "    leave x", "  end", "  if c", "    leave y", "  end",
                                 "  do work", "end"))

    def test_a_row_that_several_worlds_meet(self):
        """Two rows, then one, then two again, then one."""
        text = lines("if a", "  if b", "  end", "else", "  if c", "  end", "end", "if d", "  if e", "  end",
                     "else", "  if g", "  end", "end")
        self.check_text(2, text)

    def test_chains_that_skip_rows(self):
        """A first choice of a lower row may have to be given up."""
        text = lines("if a", "  if b", "    if c", "      return 1", "    end", "    return 2", "  end", "  if d", "  end",
                     "  return 2", "end", "if e", "  return 1", "end", "return 3")
        self.check_text(3, text)

    def test_cells(self):
        text = lines("while a", "  when n is 0", "    set n 1", "  else", "    set n 2", "  end", "end")
        self.check_text(3, text, ("n", 3))

    def test_given_texts(self):
        for first, second in ALIKE + DIFFERENT:
            self.check(body_of(first))
            self.check(body_of(second))

    def test_random_bodies(self):
        greatest = 0
        for seed in range(600):
            maker = Maker(seed)
            greatest = max(greatest, self.check(maker.body(maker.random.choice([2, 4, 6]))))
        self.assertGreater(greatest, 6)

    def test_many_rows(self):
        text = lines("while m", "  if a", "    set n 1", "  end", "  if b", "    set n 2", "  end", "  if c", "    set a 1", "  end",
                     "  if d", "    set a 2", "  end", "  do work", "end", "return n")
        body = body_of(text, ("n", 3), ("a", 3))
        self.assertGreater(len(plan(body)), 60)
        self.check(body)

    def test_lists_of_their_own(self):
        body = body_of(LOOP)
        for part in cover(body):
            part.clear()
        self.assertEqual(cover(body)[1], [1, 3])


if __name__ == "__main__":
    unittest.main()
