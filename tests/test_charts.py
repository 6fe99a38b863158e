import unittest

from exitdeeds.charts import Chart
from exitdeeds.families import family
from exitdeeds.plans import plan
from exitdeeds.worlds import World, worlds
from tests.making import Maker, body_of, lines
from tests.texts import LOOP


def reached(chart, world):
    """The number of the row to which the answers lead, or None if they lead beyond an out row."""
    row = 0
    for answer in world:
        if len(chart.rows[row]) == 1:
            return None
        row = chart.rows[row][1 + answer][0]
    return row


class ChartTest(unittest.TestCase):
    def charts(self):
        for seed in range(60):
            body = Maker(seed).body()
            yield plan(body)
            yield family(body)

    def test_len_and_iteration(self):
        chart = plan(body_of(LOOP))
        self.assertIsInstance(chart, Chart)
        self.assertEqual(len(chart), 4)
        self.assertEqual(tuple(chart), chart.rows)
        self.assertIsInstance(chart.rows, tuple)
        self.assertEqual([len(row) for row in chart], [3, 1, 3, 1])

    def test_targets(self):
        chart = plan(body_of(LOOP))
        self.assertEqual([chart.targets(row) for row in range(4)], [(1, 2), (), (3, 0), ()])
        self.assertEqual(chart.targets(row=2), (3, 0))
        self.assertEqual(family(body_of(LOOP)).targets(2), (3, 0))

    def test_beginning(self):
        chart = plan(body_of(LOOP))
        self.assertEqual([chart.beginning(row).text for row in range(4)], ["", "0", "1", "10"])
        self.assertEqual(chart.beginning(row=3), World.read("10"))

    def test_beginning_is_the_least_world(self):
        for chart in self.charts():
            least = {}
            for world in worlds(6):
                least.setdefault(reached(chart, world), world)
            for row in range(len(chart)):
                self.assertEqual(reached(chart, chart.beginning(row)), row)
                if row in least:
                    self.assertEqual(chart.beginning(row), least[row])
                else:
                    self.assertGreater(len(chart.beginning(row)), 6)

    def test_rows_are_numbered_in_the_order_of_their_beginnings(self):
        for chart in self.charts():
            beginnings = [chart.beginning(row) for row in range(len(chart))]
            self.assertEqual(beginnings[0], World(()))
            for lower, upper in zip(beginnings, beginnings[1:]):
                self.assertLess(lower, upper)

    def test_leavings(self):
        self.assertEqual(plan(body_of(LOOP)).leavings(), [(("raise", "work"), ()), (("return", 1), ())])
        self.assertEqual(plan(body_of("")).leavings(), [(("return", 0), ())])
        text = lines("if a", "  return 10", "end", "if a", "  set n 2", "  return 9", "end", "if a", "  set n 1",
                     "  return 9", "end", "if a", "  raise z", "end", "if a", "  leave z", "end", "return 9")
        found = [(("leave", "z"), (0,)), (("raise", "z"), (0,)), (("return", 9), (0,)), (("return", 9), (1,)),
                 (("return", 9), (2,)), (("return", 10), (0,))]
        for made in (plan, family):
            self.assertEqual(made(body_of(text, ("n", 3))).leavings(), found)

    def test_each_leaving_once(self):
        text = lines("if a", "  return 1", "else", "  if b", "    return 1", "  end", "end", "do work", "return 1")
        self.assertEqual(plan(body_of(text)).leavings(), [(("raise", "work"), ()), (("return", 1), ())])

    def test_leavings_are_a_new_list(self):
        chart = plan(body_of(LOOP))
        chart.leavings().clear()
        self.assertEqual(len(chart.leavings()), 2)
        self.assertIsInstance(chart.leavings(), list)

    def test_describe(self):
        self.assertEqual(Chart((("out", ("return", 0), ()),), ()).describe(), "1 rows")
        self.assertEqual(Chart(plan(body_of(LOOP)).rows, ()).describe(), "4 rows")


if __name__ == "__main__":
    unittest.main()
