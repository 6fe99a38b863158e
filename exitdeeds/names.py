"""Names and numbers."""

from exitdeeds.errors import BadName, BadNumber

LETTERS = "abcdefghijklmnopqrstuvwxyz"
LETTERS_AND_DIGITS = "abcdefghijklmnopqrstuvwxyz0123456789"
LONGEST_NAME = 12
GREATEST_NUMBER = 999


def is_name(text):
    """Whether the string is a name."""
    if not 1 <= len(text) <= LONGEST_NAME or text[0] not in LETTERS:
        return False
    return all([letter in LETTERS_AND_DIGITS for letter in text])


def check_name(name):
    """Return the name; raise BadName for a string that is not a name."""
    if not is_name(name):
        raise BadName(name)
    return name


def check_number(number):
    """Return the number; raise BadNumber for an integer that is not a number."""
    if not 0 <= number <= GREATEST_NUMBER:
        raise BadNumber(number)
    return number
