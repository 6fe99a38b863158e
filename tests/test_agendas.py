import itertools
import random
import unittest

from exitdeeds.agendas import Agendas
from exitdeeds.errors import BadNumber
from exitdeeds.lying import lying
from exitdeeds.writing import write_action
from tests.making import act, body_of, lines

A, B, C = act("done", "a"), act("error", "b", 7), act("done", "c", 0, act("error", "b", 7), act("always", "a"))
LETTERS = (A, B, C)


def all_words(longest, letters=LETTERS):
    return [word for length in range(longest + 1) for word in itertools.product(letters, repeat=length)]


def some_words(seed):
    chance = random.Random(seed)
    return {word for word in all_words(3, (A, B)) if chance.random() < chance.choice([0.1, 0.5, 0.9])}


def members(agendas):
    """All the members of a set without longer words than 4."""
    return set(agendas.words(4))


def loop(*rows):
    """The set of the agendas of a loop around these lines, at the leaving behind it."""
    return lying(body_of(lines("while more", *rows, "end")), (("return", 0), ()))


class OfTest(unittest.TestCase):
    def test_no_word(self):
        none = Agendas.of()
        self.assertEqual(list(none.words(4)), [])
        self.assertEqual((none.size, none.finite, bool(none)), (0, True, False))
        for word in all_words(2):
            self.assertNotIn(word, none)

    def test_the_empty_word(self):
        empty = Agendas.of(())
        self.assertEqual(list(empty.words(4)), [()])
        self.assertEqual((empty.size, empty.finite, bool(empty)), (1, True, True))
        self.assertIn((), empty)
        self.assertNotIn((A,), empty)

    def test_one_word(self):
        for word in all_words(3):
            agendas = Agendas.of(word)
            self.assertEqual(members(agendas), {word})
            self.assertEqual(agendas.size, len(word) + 1)
            for other in all_words(3):
                self.assertEqual(other in agendas, other == word)

    def test_several_words(self):
        for seed in range(40):
            words = some_words(seed)
            agendas = Agendas.of(*sorted(words, key=str))
            for word in all_words(4, (A, B)):
                self.assertIs(word in agendas, word in words)
            self.assertEqual(members(agendas), words)
            self.assertEqual((agendas.finite, bool(agendas)), (True, bool(words)))

    def test_the_same_word_twice(self):
        once, twice = Agendas.of((A, B), (B,)), Agendas.of((A, B), (B,), (A, B), (B,), (B,))
        self.assertTrue(once == twice)
        self.assertEqual(list(twice.words(4)), [(B,), (A, B)])

    def test_lists_are_words_too(self):
        self.assertEqual(Agendas.of([A, B], []), Agendas.of((A, B), ()))

    def test_words_that_are_alike_at_first_sight(self):
        """Actions that differ in one part only, and words that are joined in another way."""
        others = [
            act("error", "a"), act("done", "b"), act("done", "a", 0), act("done", "a", None, A),
            act("done", "a", None, A, A), act("done", "a", None, act("done", "a", None, A)), act("done", "a", 7),
        ]
        for number, first in enumerate(others):
            agendas = Agendas.of((first,))
            self.assertNotIn((A,), agendas)
            for other in others[:number] + others[number + 1:]:
                self.assertNotIn((other,), agendas)
        self.assertNotIn((act("done", "a", None, A, A),), Agendas.of((A, A)))
        self.assertNotIn((act("always", "a"),), Agendas.of((A,)))

    def test_deep_actions(self):
        deep = A
        for _ in range(7):
            deep = act("done", "c", 1, B, deep)
        agendas = Agendas.of((deep, B), (deep,))
        self.assertIn((deep, B), agendas)
        self.assertEqual(list(agendas.words(2)), [(deep,), (deep, B)])


class OperatorTest(unittest.TestCase):
    def test_against_sets_of_tuples(self):
        for seed in range(60):
            first, second = some_words(seed), some_words(seed + 1000)
            left, right = Agendas.of(*first), Agendas.of(*second)
            for found, wanted in (
                (left | right, first | second), (left & right, first & second),
                (left - right, first - second), (left ^ right, first ^ second),
            ):
                self.assertEqual(members(found), wanted)
                self.assertEqual(found, Agendas.of(*wanted))
                self.assertEqual(found.size, Agendas.of(*wanted).size)
                self.assertEqual(bool(found), bool(wanted))
                self.assertTrue(found.finite)
            self.assertEqual((left == right, left != right), (first == second, first != second))
            self.assertEqual((members(left), members(right)), (first, second))

    def test_with_the_empty_set(self):
        none, some = Agendas.of(), Agendas.of((), (A,), (A, B))
        for found in (some | none, none | some, some - none, some ^ none, none ^ some):
            self.assertEqual(found, some)
        for found in (some & none, none & some, none - some, some - some, some ^ some, none | none):
            self.assertEqual(found, none)
            self.assertEqual((found.size, found.finite, bool(found)), (0, True, False))

    def test_infinite_sets(self):
        works, pairs = loop("  put work on done"), loop("  put work on done", "  put work on done")
        work = act("done", "work")
        self.assertEqual(works | pairs, works)
        self.assertEqual(works & pairs, pairs)
        self.assertEqual(pairs - works, Agendas.of())
        odd = works - pairs
        self.assertEqual(odd, works ^ pairs)
        self.assertEqual(list(odd.words(4)), [(work,), (work, work, work)])
        self.assertEqual((odd.finite, bool(odd), odd.size), (False, True, 2))
        self.assertFalse((works - Agendas.of((work,))).finite)
        self.assertTrue((works & Agendas.of((work,), (A,))).finite)
        self.assertEqual((works - Agendas.of((), (work,))) | Agendas.of((work,), ()), works)

    def test_other_letters(self):
        works, undos = loop("  put work on done"), loop("  put undo on done")
        self.assertEqual(works & undos, Agendas.of(()))
        self.assertEqual(list((works | undos).words(1)), [(), (act("done", "undo"),), (act("done", "work"),)])


class EqualTest(unittest.TestCase):
    def test_made_in_different_ways(self):
        first = Agendas.of((A, B), (B,), ())
        for other in (
            Agendas.of((), (B,), (A, B)), Agendas.of((A, B)) | Agendas.of((B,)) | Agendas.of(()),
            Agendas.of((A, B), (B,), (), (C, C)) - Agendas.of((C, C), (C,)),
            Agendas.of((A, B), (B, A)) ^ Agendas.of((B, A), (B,), ()),
        ):
            self.assertTrue(first == other)
            self.assertFalse(first != other)

    def test_infinite_sets_made_in_different_ways(self):
        works = loop("  put work on done")
        twice = loop("  put work on done", "  if a", "    put work on done", "  end")
        other = loop("  put work on done", "  while a", "    put work on done", "  end")
        again = loop("  if a", "    put work on done", "  end", "  put work on done [undo on error]")
        self.assertTrue(works == twice == other == again)
        self.assertFalse(works == loop("  put work on done", "  put work on done"))
        self.assertFalse(works == loop("  put work(1) on done"))

    def test_different(self):
        first = Agendas.of((A, B))
        for other in (Agendas.of((B, A)), Agendas.of((A,)), Agendas.of((A, B), ()), Agendas.of(), {(A, B)}, None, 3):
            self.assertFalse(first == other)
            self.assertTrue(first != other)


class SizeTest(unittest.TestCase):
    def check(self, size, agendas):
        self.assertEqual(agendas.size, size)

    def test_counted_by_hand(self):
        self.check(0, Agendas.of())
        self.check(1, Agendas.of(()))
        self.check(2, Agendas.of((), (A,)))
        self.check(2, Agendas.of((A,), (B,)))
        # {AB, B}; behind B {A, ()}; behind AB {()}
        self.check(3, Agendas.of((A, B), (B,)))
        # {AA, AB, BA, BB}; {A, B}; {()}
        self.check(3, Agendas.of((A, A), (A, B), (B, A), (B, B)))
        # {AC, BC, A}; behind C {A, B}; behind A {()}
        self.check(3, Agendas.of((A, C), (B, C), (A,)))
        # {AC, BA}; behind C {A}; behind A {B}; {()}
        self.check(4, Agendas.of((A, C), (B, A)))

    def test_words_are_read_from_their_ends(self):
        # {AAA, AAB, ABA, ABB}, then {AA, AB} behind both, then {A} behind both, then {()}
        self.check(4, Agendas.of((A, A, A), (A, A, B), (A, B, A), (A, B, B)))
        # {AAA, BAA, ABA, BBA}, then {AA, BA, AB, BB}, {A, B}, {()}
        self.check(4, Agendas.of((A, A, A), (B, A, A), (A, B, A), (B, B, A)))
        # {ABC, BAC, AB}: behind C {AB, BA}, behind BC {A}, behind AC {B}; behind B {A}; {()}
        self.check(5, Agendas.of((A, B, C), (B, A, C), (A, B)))

    def test_loops(self):
        self.check(1, loop("  put work on done"))
        self.check(2, loop("  put work on done", "  put work on done"))
        self.check(2, loop("  put work on done", "  put undo on done"))
        self.check(3, loop("  put work on done", "  put undo on done", "  put undo on done"))

    def test_a_choice_that_shows_late(self):
        # The third action from the start is `undo`: so each of the last three
        # that were read can be it, and each of these 8 cases leaves another set.
        choice = ["if a", "  put undo on done", "else", "  put gain on done", "end"]
        text = lines(*choice, *choice, "put undo on done", "while b", *choice, "end")
        found = lying(body_of(text), (("return", 0), ()))
        self.check(8, found)
        self.assertFalse(found.finite)

    def test_against_the_sets_that_are_left(self):
        for seed in range(40):
            words = some_words(seed)
            left = set()
            for end in all_words(3, (A, B)):
                rest = frozenset(word[:len(word) - len(end)] for word in words if word[len(word) - len(end):] == end
                                 and len(word) >= len(end))
                if rest:
                    left.add(rest)
            self.check(len(left), Agendas.of(*words))


class WordsTest(unittest.TestCase):
    def test_lengths(self):
        works = loop("  put work on done")
        for longest in (0, 1, 4):
            self.assertEqual(
                list(works.words(longest=longest)), [(act("done", "work"),) * many for many in range(longest + 1)],
            )

    def test_bad_numbers(self):
        for longest in (-1, 5, 1000, 10 ** 5000):
            for agendas in (Agendas.of(), loop("  put work on done")):
                found = agendas.words(longest)
                with self.assertRaises(BadNumber) as caught:
                    next(found)
                self.assertEqual(caught.exception.number, longest)

    def test_order_of_the_texts(self):
        # As texts, "b(10)" is less than "b(9)", and "b on" is less than both.
        letters = [act("done", "a"), act("error", "a"), act("done", "b"), act("done", "b", 10), act("done", "b", 9),
                   act("done", "b", 9, B, A), act("done", "ba")]
        self.assertEqual(list(Agendas.of(*[(letter,) for letter in letters[::-1]]).words(1)),
                         [(letter,) for letter in sorted(letters, key=write_action)])
        self.assertLess(write_action(letters[3]), write_action(letters[4]))
        words = all_words(2, letters)
        found = list(Agendas.of(*words).words(2))
        self.assertEqual(found, sorted(words, key=lambda word: (len(word), [write_action(part) for part in word])))

    def test_shorter_words_first(self):
        self.assertEqual(list(Agendas.of((A, A), (B,), (), (C,), (A, A, A, A), (A, A, A, A, A)).words(4)),
                         [(), (B,), (C,), (A, A), (A, A, A, A)])

    def test_words_of_all_lengths(self):
        for seed in range(30):
            words = some_words(seed)
            agendas = Agendas.of(*words)
            for longest in range(5):
                found = list(agendas.words(longest))
                self.assertEqual(len(found), len(set(found)))
                self.assertEqual(set(found), {word for word in words if len(word) <= longest})


if __name__ == "__main__":
    unittest.main()
