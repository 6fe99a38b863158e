import unittest

from exitdeeds.errors import BadName, BadNumber
from exitdeeds.names import check_name, check_number

GOOD_NAMES = (
    "a", "z", "a0", "z9", "az", "zz", "late", "end", "self", "n0m1z9", "abcdefghijkl", "a12345678901", "zzzzzzzzzzzz",
)
# The neighbours of 0, 9, a and z in ASCII, and letters and signs of other kinds.
STRANGE = ("A", "M", "Z", " ", "-", "_", "/", ":", "`", "{", "@", "[", "~", "!", "\n", "\t", "\0", ".")


class NamesTest(unittest.TestCase):
    def refused(self, name):
        with self.assertRaises(BadName) as caught:
            check_name(name)
        self.assertEqual(caught.exception.name, name)

    def test_names_are_returned(self):
        for name in GOOD_NAMES:
            self.assertEqual(check_name(name), name)
        self.assertEqual(check_name(name="sign"), "sign")

    def test_each_letter_and_digit(self):
        for letter in "abcdefghijklmnopqrstuvwxyz":
            self.assertEqual(check_name(letter), letter)
            self.assertEqual(check_name("x" + letter + "y"), "x" + letter + "y")
            self.assertEqual(check_name("x" + letter), "x" + letter)
        for digit in "0123456789":
            self.assertEqual(check_name("x" + digit + "y"), "x" + digit + "y")
            self.assertEqual(check_name("xy" + digit), "xy" + digit)

    def test_lengths(self):
        self.refused("")
        self.assertEqual(check_name("a"), "a")
        self.assertEqual(check_name("abcdefghij12"), "abcdefghij12")
        self.refused("abcdefghij123")
        self.refused("a" * 13)
        self.refused("a" * 1000)

    def test_digit_first(self):
        for digit in "0123456789":
            self.refused(digit)
            self.refused(digit + "ab")

    def test_strange_characters_at_each_place(self):
        for sign in STRANGE:
            self.refused(sign)
            self.refused(sign + "ab")
            self.refused("a" + sign + "b")
            self.refused("ab" + sign)
            self.refused("a" * 11 + sign)

    def test_all_other_ascii_characters(self):
        allowed = "abcdefghijklmnopqrstuvwxyz0123456789"
        for code in range(128):
            if chr(code) not in allowed:
                self.refused("a" + chr(code))


class NumbersTest(unittest.TestCase):
    def refused(self, number):
        with self.assertRaises(BadNumber) as caught:
            check_number(number)
        self.assertTrue(caught.exception.number == number)

    def test_numbers_are_returned(self):
        for number in range(1000):
            self.assertEqual(check_number(number), number)
        self.assertEqual(check_number(number=7), 7)

    def test_bounds(self):
        self.refused(-1)
        self.assertEqual(check_number(0), 0)
        self.assertEqual(check_number(999), 999)
        self.refused(1000)

    def test_many_digits(self):
        for power in (4, 20, 100, 5000):
            self.refused(10 ** power)
            self.refused(-(10 ** power))


if __name__ == "__main__":
    unittest.main()
