"""Words, integers, the texts of effects, and the form of keys."""

LETTERS = "abcdefghijklmnopqrstuvwxyz"
CAPITALS = "ABCDEFGHIJKLMNOPQRSTUVWXYZ"
DIGITS = "0123456789"
# All numbers of tasks are smaller than this one.
MODULUS = 1000000007


def is_made_of(text, allowed):
    """Tell whether a text has no other characters than the allowed ones."""
    return all([character in allowed for character in text])


def is_integer(value, low, high):
    """Tell whether any value is an integer from low to high."""
    return isinstance(value, int) and not isinstance(value, bool) and low <= value <= high


def is_number(value):
    """Tell whether any value is a number of tasks."""
    return is_integer(value, 0, MODULUS - 1)


def is_word(value):
    """Tell whether any value is a word."""
    return isinstance(value, str) and 1 <= len(value) <= 8 and is_made_of(value, LETTERS)


def is_effect(value):
    """Tell whether any value is the text of an effect."""
    if not isinstance(value, str) or not 1 <= len(value) <= 20:
        return False
    return value.strip(" ") == value and is_made_of(value, LETTERS + CAPITALS + DIGITS + " ")


def has_key_form(value):
    """Tell whether any value is a tuple of a word and a tuple of numbers."""
    if not isinstance(value, tuple) or len(value) != 2:
        return False
    plan, arguments = value
    return is_word(plan) and isinstance(arguments, tuple) and all([is_number(number) for number in arguments])
