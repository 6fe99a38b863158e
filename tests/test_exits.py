import unittest

from exitdeeds.exits import after, state

PENDING = {
    "done": (("return", 0), ("return", 999), ("leave", "away")),
    "error": (("raise", "oops"),),
}
# What the answer 1 makes of the pending exit; None where the exit stays.
CHANGED = (
    (("plain",), "done", None),
    (("plain",), "error", None),
    (("answer", 5), "done", ("return", 5)),
    (("answer", 5), "error", None),
    (("jump", "out"), "done", ("leave", "out")),
    (("jump", "out"), "error", ("leave", "out")),
    (("heal", 6), "done", None),
    (("heal", 6), "error", ("return", 6)),
    (("swap", "other"), "done", None),
    (("swap", "other"), "error", ("raise", "other")),
)


class StateTest(unittest.TestCase):
    def test_three_forms(self):
        self.assertEqual(state(("return", 0)), "done")
        self.assertEqual(state(("return", 999)), "done")
        self.assertEqual(state(("leave", "away")), "done")
        self.assertEqual(state(("raise", "oops")), "error")

    def test_words_as_names_do_not_matter(self):
        self.assertEqual(state(("leave", "raise")), "done")
        self.assertEqual(state(("raise", "leave")), "error")
        self.assertEqual(state(pending=("raise", "return")), "error")


class AfterTest(unittest.TestCase):
    def test_answer_one(self):
        for kind, guard, changed in CHANGED:
            for pending in PENDING[guard]:
                expected = pending if changed is None else changed
                self.assertEqual(after(pending, "sign", kind, guard, 1), expected, (kind, pending))

    def test_answer_zero_raises_the_step(self):
        for kind, guard, _ in CHANGED:
            for pending in PENDING[guard]:
                self.assertEqual(after(pending, "sign", kind, guard, 0), ("raise", "sign"), (kind, pending))

    def test_zero_is_kept_as_a_number(self):
        self.assertEqual(after(("return", 3), "sign", ("answer", 0), "done", 1), ("return", 0))
        self.assertEqual(after(("raise", "oops"), "sign", ("heal", 0), "error", 1), ("return", 0))

    def test_arguments_by_name(self):
        shown = after(pending=("return", 3), step="sign", kind=("plain",), guard="done", answer=0)
        self.assertEqual(shown, ("raise", "sign"))


if __name__ == "__main__":
    unittest.main()
