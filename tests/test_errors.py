import unittest

from exitdeeds import errors

ATTRIBUTES = {
    "BadName": ("name",),
    "BadNumber": ("number",),
    "BadKind": ("kind",),
    "BadAction": ("action",),
    "BadStatement": ("statement",),
    "BadWorld": ("at",),
    "BadLine": ("line",),
    "BadText": ("name",),
    "UnknownStep": ("step",),
    "UnknownCell": ("cell",),
    "TooLarge": ("most",),
    "Clash": ("name",),
    "OtherBook": (),
    "NoAnswer": ("rows",),
    "NeverShows": ("shown",),
    "Parted": ("world",),
    "Unbounded": ("leaving", "head", "loop", "tail"),
    "NoBody": ("name",),
    "NotRun": ("at",),
    "Finished": (),
    "NoMark": ("name",),
    "NothingLeft": (),
    "AlreadyLeft": ("used",),
    "BadMove": ("at",),
    "OtherSide": (),
}


def values_for(names):
    return [(("part", place),) for place in range(len(names))]


class ErrorsTest(unittest.TestCase):
    def test_base_class(self):
        self.assertEqual(errors.DeedError.__bases__, (ValueError,))

    def test_each_error_is_a_direct_subclass(self):
        for word in ATTRIBUTES:
            with self.subTest(word):
                self.assertEqual(getattr(errors, word).__bases__, (errors.DeedError,))

    def test_no_error_is_another_one(self):
        for word in ATTRIBUTES:
            for other in ATTRIBUTES:
                same = issubclass(getattr(errors, word), getattr(errors, other))
                self.assertEqual(same, word == other, (word, other))

    def test_no_error_is_missing_or_added(self):
        found = {word for word, thing in vars(errors).items() if isinstance(thing, type)}
        self.assertEqual(found, {"DeedError", *ATTRIBUTES})

    def test_attributes_by_position(self):
        for word, names in ATTRIBUTES.items():
            values = values_for(names)
            error = getattr(errors, word)(*values)
            self.assertEqual(vars(error), dict(zip(names, values)), word)

    def test_attributes_by_name(self):
        for word, names in ATTRIBUTES.items():
            values = dict(zip(names, values_for(names)))
            error = getattr(errors, word)(**values)
            self.assertEqual(vars(error), values, word)

    def test_each_error_has_a_message(self):
        for word, names in ATTRIBUTES.items():
            error = getattr(errors, word)(*values_for(names))
            self.assertNotEqual(str(error), "", word)
            self.assertNotEqual(repr(error), "", word)

    def test_numbers_of_many_digits_do_not_break_the_message(self):
        huge = 10 ** 5000
        for error in (
            errors.BadNumber(huge),
            errors.BadKind(("plain", huge)),
            errors.BadAction(("never", "sign", huge, ())),
            errors.BadStatement(("go", huge)),
        ):
            self.assertNotEqual(str(error), "")

    def test_rows_are_a_tuple_of_their_own(self):
        rows = [("way", "sign", None, 1)]
        error = errors.NoAnswer(rows)
        rows.append(("way", "undo", None, 0))
        self.assertEqual(error.rows, (("way", "sign", None, 1),))


if __name__ == "__main__":
    unittest.main()
