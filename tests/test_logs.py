import unittest

from exitdeeds.errors import DeedError, NotRun
from exitdeeds.logs import replayed
from exitdeeds.running import run
from exitdeeds.worlds import World, worlds
from tests.making import Maker, body_of, lines
from tests.texts import LOOP


class LogCase(unittest.TestCase):
    def refused(self, at, body, log):
        for kind in (list, tuple):
            with self.assertRaises(NotRun) as caught:
                replayed(body, kind(log))
            self.assertEqual(caught.exception.at, at, log)
            self.assertIsInstance(caught.exception, DeedError)

    def right(self, body, log, text):
        for kind in (list, tuple):
            found = replayed(body, kind(log))
            self.assertIsInstance(found, World)
            self.assertEqual(found.text, text)


class RunTest(LogCase):
    def test_the_run_itself(self):
        body = body_of(LOOP)
        for text in ("", "0", "1", "10", "11", "110", "1110", "11100", "111001", "1100"):
            log = run(body, World.read(text))
            used = [row[-1] for row in log if row[0] in ("do", "test", "way")]
            self.right(body, log, "".join(map(str, used)))

    def test_arguments_by_name(self):
        body = body_of(LOOP)
        self.assertEqual(replayed(body=body, log=run(body, World.read("10"))).text, "10")

    def test_random_runs(self):
        for seed in range(150):
            maker = Maker(seed)
            body = maker.body()
            for many in (0, 1, 3, 10, 30):
                log = run(body, maker.world(many))
                kept = list(log)
                world = replayed(body, log)
                self.assertEqual(run(body, world), log)
                self.assertEqual(log, kept)

    def test_exits_that_look_like_answers(self):
        """The last parts of other rows are no answers."""
        body = body_of(lines("set n 1", "return n"), ("n", 2))
        self.right(body, [("out", ("return", 1), (1,)), ("end", ("return", 1))], "")


class NoRunTest(LogCase):
    def test_the_empty_log(self):
        self.right(body_of(LOOP), [], "")
        self.right(body_of("do work"), (), "")
        self.refused(0, body_of(""), [])
        self.refused(0, body_of("put work on done"), [])

    def test_a_row_of_another_form(self):
        body = body_of("do work(1)")
        self.right(body, [("do", "work", 1, 0), ("out", ("raise", "work"), ()), ("end", ("raise", "work"))], "0")
        for row in (("do", "work", None, 0), ("do", "work", 2, 0), ("do", "undo", 1, 0), ("test", "work", 0),
                    ("way", "work", 1, 0), ("out", ("return", 0), ()), ("end", ("return", 0))):
            self.refused(0, body, [row, ("out", ("raise", "work"), ()), ("end", ("raise", "work"))])

    def test_each_row_taken_out(self):
        self.check_changed(lambda log, at: log[:at] + log[at + 1:])

    def test_each_row_doubled(self):
        self.check_changed(lambda log, at: log[:at] + [log[at]] + log[at:])

    def test_each_row_with_the_other_answer(self):
        def turned(log, at):
            row = log[at]
            return log[:at] + [(*row[:-1], 1 - row[-1]) if row[-1] in (0, 1) else row] + log[at + 1:]
        self.check_changed(turned)

    def test_two_rows_exchanged(self):
        def exchanged(log, at):
            return log[:at] + log[at:at + 2][::-1] + log[at + 2:]
        self.check_changed(exchanged)

    def test_each_beginning(self):
        self.check_changed(lambda log, at: log[:at])

    def test_more_behind_the_run(self):
        body = body_of(LOOP)
        log = run(body, World.read("10"))
        for row in (log[-1], ("way", "undo", None, 1), ("do", "work", None, 1), ("out", ("return", 1), ())):
            self.refused(len(log), body, [*log, row])

    def check_changed(self, change):
        """Against the runs of all worlds with as many answers."""
        many = {True: 0, False: 0}
        for seed in range(80):
            maker = Maker(seed)
            body = maker.body()
            log = run(body, maker.world(7))
            for at in range(len(log)):
                other = change(log, at)
                answers = World([row[-1] for row in other if row[0] in ("do", "test", "way")])
                rows = run(body, answers)
                many[rows == other] += 1
                if rows == other:
                    self.right(body, other, answers.text)
                    continue
                first = 0
                while first < min(len(rows), len(other)) and rows[first] == other[first]:
                    first += 1
                self.refused(first, body, other)
        self.assertGreater(many[False], 20)

    def test_a_beginning_that_is_no_run(self):
        body = body_of("do work")
        log = run(body, World.read("0"))
        self.assertEqual(len(log), 3)
        self.right(body, log[:0], "")
        self.refused(1, body, log[:1])
        self.refused(2, body, log[:2])

    def test_a_row_in_the_middle(self):
        body = body_of(LOOP)
        log = run(body, World.read("1110"))
        self.assertEqual(len(log), 5)
        self.refused(4, body, log[:4])
        self.refused(0, body, log[1:])
        self.refused(2, body, log[:2] + log[3:])
        self.refused(3, body, log[:3] + [("do", "undo", None, 0)] + log[4:])
        # With the other answer the run goes on in another way.
        self.refused(4, body, log[:3] + [("do", "work", None, 1)] + log[4:])
        self.refused(5, body, [*log, ("end", ("raise", "work"))])

    def test_all_small_logs_against_all_runs(self):
        for seed in range(40):
            body = Maker(seed).body(2)
            runs = [run(body, world) for world in worlds(4)]
            other = Maker(seed + 1).body(2)
            for log in [run(other, world) for world in worlds(3)]:
                if log in runs:
                    self.assertEqual(run(body, replayed(body, log)), log)
                else:
                    self.assertRaises(NotRun, replayed, body, log)


if __name__ == "__main__":
    unittest.main()
