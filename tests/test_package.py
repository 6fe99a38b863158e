"""What the document promises over the whole package: points 1, 2 and 51."""
import ast
import copy
import pathlib
import subprocess
import sys
import unittest

import exitdeeds
from exitdeeds.covers import cover
from exitdeeds.desks import Desk
from exitdeeds.errors import DeedError
from exitdeeds.families import family
from exitdeeds.logs import replayed
from exitdeeds.lying import lying
from exitdeeds.nesting import bounded, nested
from exitdeeds.pairs import alike, leads, parting
from exitdeeds.passages import breaking, keeps, passages
from exitdeeds.plans import plan
from exitdeeds.policies import policy
from exitdeeds.reading import read
from exitdeeds.remainders import parting_world, remainder
from exitdeeds.rewriting import early, pruned
from exitdeeds.rules import Rule
from exitdeeds.running import run
from exitdeeds.showing import never, shows, world_for
from exitdeeds.tables import table
from exitdeeds.walks import Walk
from exitdeeds.worlds import World, worlds
from exitdeeds.writing import write
from tests.making import Maker, body_of, lines
from tests.texts import LOOP

FOLDER = pathlib.Path(exitdeeds.__file__).parent
ALLOWED = ("heapq", "math", "itertools", "collections")
# The whole program over one body, as text; it prints the same in every process.
SCRIPT = """
from exitdeeds.covers import cover
from exitdeeds.families import family
from exitdeeds.lying import lying
from exitdeeds.nesting import bounded
from exitdeeds.pairs import leads
from exitdeeds.passages import breaking, passages
from exitdeeds.plans import plan
from exitdeeds.policies import policy
from exitdeeds.rules import Rule
from exitdeeds.showing import shows, world_for
from exitdeeds.tables import table
from exitdeeds.worlds import World
from tests.making import Maker
for seed in range(25):
    body = Maker(seed).body()
    rule = Rule(2, [(0, ("way", "work", None, 0), 1), (1, None, -1)])
    found, broken = cover(body), breaking(body, rule)
    print([world.text for world in found[0]], found[1], passages(body, rule), broken and broken.text)
    print(plan(body).rows, list(table(family(body))), bounded(body), leads(body, body))
    print([(shown, world_for(body, shown).text) for shown in shows(body)])
    print([list(lying(body, leaving).words(2)) for leaving in plan(body).leavings()])
    game = policy(body, ("more",), shows(body)[:1])
    print(game.wins, game.most)
"""


class ImportTest(unittest.TestCase):
    def test_no_clock_no_files_no_random_numbers(self):
        for file in FOLDER.glob("*.py"):
            for node in ast.walk(ast.parse(file.read_text(encoding="utf-8"))):
                self.assertNotIsInstance(node, ast.Import)
                if isinstance(node, ast.ImportFrom):
                    self.assertTrue(node.module in ALLOWED or node.module.startswith("exitdeeds."), node.module)
                if isinstance(node, ast.Name):
                    self.assertNotIn(node.id, ("open", "print", "input", "eval", "exec", "id", "hash"))

    def test_no_star_in_an_index_or_a_set(self):
        for file in FOLDER.glob("*.py"):
            for node in ast.walk(ast.parse(file.read_text(encoding="utf-8"))):
                if isinstance(node, (ast.Subscript, ast.Set)):
                    inside = [node.slice] if isinstance(node, ast.Subscript) else node.elts
                    stars = [part for place in inside for part in ast.walk(place) if isinstance(part, ast.Starred)]
                    self.assertEqual(stars, [], f"{file.name}, row {node.lineno}")

    def test_python_files_only(self):
        names = [file.name for file in FOLDER.iterdir() if file.name != "__pycache__"]
        self.assertEqual([name for name in names if not name.endswith(".py")], [])
        self.assertIn("__init__.py", names)

    def test_every_module_of_the_interface(self):
        names = {file.stem for file in FOLDER.glob("*.py")}
        self.assertLessEqual({
            "errors", "names", "exits", "books", "actions", "bodies", "worlds", "running", "piles", "writing", "reading",
            "charts", "plans", "words", "showing", "agendas", "lying", "pairs", "families", "rewriting", "nesting",
            "desks", "tables", "logs", "walks", "remainders", "rules", "passages", "policies", "covers",
        }, names)

    def test_the_same_in_every_process(self):
        printed = [
            subprocess.run([sys.executable, "-c", SCRIPT], cwd=FOLDER.parent, capture_output=True, check=True, text=True,
                           env={"PYTHONHASHSEED": seed, "PYTHONDONTWRITEBYTECODE": "1", "PYTHONPATH": str(FOLDER.parent)}).stdout
            for seed in ("0", "1", "2")
        ]
        self.assertGreater(len(printed[0]), 1000)
        self.assertEqual(printed[0], printed[1])
        self.assertEqual(printed[0], printed[2])


class NothingIsChangedTest(unittest.TestCase):
    """Functions leave their arguments as they are, and give new lists."""

    def kept(self, call, *arguments):
        """Call twice; the arguments stay, and what is returned is not shared."""
        before = copy.deepcopy(arguments)
        first = call(*arguments)
        again = call(*arguments)
        shown = copy.deepcopy(again)
        self.emptied(first)
        for left, right in zip(arguments, before):
            self.same(left, right)
        self.same(again, shown)
        self.same(call(*arguments), shown)

    def emptied(self, thing):
        if isinstance(thing, list):
            thing.clear()
        if isinstance(thing, tuple):
            for part in thing:
                self.emptied(part)

    def same(self, left, right):
        self.assertEqual(left.__class__, right.__class__)
        if "__eq__" in vars(left.__class__) or not hasattr(left, "__dict__"):
            self.assertEqual(left, right)
        for name in getattr(left, "__dict__", ()):
            if not name.startswith("_"):
                self.assertEqual(getattr(left, name), getattr(right, name))

    def test_functions_of_a_body(self):
        for seed in range(40):
            body = Maker(seed).body()
            for call in (plan, family, shows, never, pruned, early, bounded, cover, write):
                self.kept(call, body)
            if bounded(body):
                self.kept(nested, body)
                self.kept(nested(body).stack, 0)
                self.kept(nested(body).leavings)

    def test_functions_of_more(self):
        rule = Rule(2, [(0, None, 1), (1, None, -1)])
        for seed in range(40):
            maker = Maker(seed)
            body, world = maker.body(), maker.world(6)
            chart = family(body)
            self.kept(run, body, world)
            self.kept(chart.run, body.book, world)
            self.kept(plan(body).run, body.book, world)
            for call in (passages, breaking, keeps):
                self.kept(call, body, rule)
            for call in (alike, parting, leads):
                self.kept(call, body, body)
            self.kept(world_for, body, shows(body)[0])
            self.kept(lying, body, chart.leavings()[0])
            self.kept(remainder, chart, body.book, World(()))
            self.kept(parting_world, chart, chart, body.book)
            self.kept(policy, body, ["more"], shows(body))
            self.kept(policy(body, ["more"], shows(body)).__class__, body, ["more"], [])
            log = run(body, world)
            self.kept(replayed, body, log)
            self.kept(rule.reached, log)
            if log:
                self.kept(Rule.against, log)
            self.kept(read, body.book, write(body))
            self.kept(lambda made: list(table(made)), chart)

    def test_a_later_change_of_a_book(self):
        book = body_of("").book
        body = read(book, LOOP)
        desk = Desk(book)
        desk["a"] = body
        walk = Walk(body)
        made = family(body)
        rest = remainder(made, book, World.read("11"))
        before = (walk.text, walk.log, made.rows, rest.start, [run(body, world) for world in worlds(4)])
        book["work"] = ("jump", "away")
        book.add_cell("n", 2)
        self.assertEqual(before, (walk.text, walk.log, made.rows, rest.start, [run(body, world) for world in worlds(4)]))
        self.assertTrue(desk["a"].book != book)


class UnequalTest(unittest.TestCase):
    def test_unequal_is_the_opposite_of_equal(self):
        body, other = body_of(LOOP), body_of("do work")
        for left, right in (
            (body.book, other.book), (body.book, body_of("", ("n", 2)).book), (body, body_of(LOOP)), (body, other),
            (World.read("1"), World.read("1")), (World.read("1"), World.read("10")),
            (family(body), family(body)), (family(body), family(other)),
            (lying(body, (("raise", "work"), ())), lying(other, (("raise", "work"), ()))),
            (lying(body, (("return", 1), ())), lying(body, (("return", 1), ()))),
            (Walk(body), Walk(body)), (Walk(body), Walk(other)),
        ):
            self.assertIs((left != right), not left == right)
            self.assertIs((right != left), not left == right)


class LimitTest(unittest.TestCase):
    def test_a_body_of_the_greatest_size(self):
        text = lines(*[line for at in range(12) for line in (f"if t{at}", f"  put work({at}) on always", "end")])
        body = body_of(text)
        self.assertEqual(len(body), 24)
        self.assertEqual(nested(body).describe(), "8191 rows, depth 23")
        self.assertEqual(len(family(body)), 13)
        self.assertEqual(len(cover(body)[0]), 1)
        self.assertEqual(read(body.book, write(body)), body)
        self.assertEqual(policy(body, (), shows(body)).most, 12)
        walk = Walk(body)
        while walk.question is not None:
            walk.answer(1)
        self.assertEqual(len(walk), 24)
        self.assertEqual(walk.log[-1], ("end", ("return", 0)))

    def test_every_error_is_a_deed_error_and_a_value_error(self):
        self.assertTrue(issubclass(DeedError, ValueError))


if __name__ == "__main__":
    unittest.main()
