"""Words, integers, the texts of effects, and the forms and texts of keys."""

LETTERS = "abcdefghijklmnopqrstuvwxyz"
CAPITALS = "ABCDEFGHIJKLMNOPQRSTUVWXYZ"
DIGITS = "0123456789"
# All numbers of tasks are smaller than this one.
MODULUS = 1000000007
MOST_ARGUMENTS = 3


def is_made_of(text, allowed):
    """Tell whether a text has no other characters than the allowed ones."""
    return all([character in allowed for character in text])


def is_integer(value, low, high):
    """Tell whether any value is an integer from low to high."""
    return isinstance(value, int) and not isinstance(value, bool) and low <= value <= high


def is_number(value):
    """Tell whether any value is a number of tasks."""
    return is_integer(value, 0, MODULUS - 1)


def is_word(value):
    """Tell whether any value is a word."""
    return isinstance(value, str) and 1 <= len(value) <= 8 and is_made_of(value, LETTERS)


def is_effect(value):
    """Tell whether any value is the text of an effect."""
    if not isinstance(value, str) or not 1 <= len(value) <= 20:
        return False
    return value.strip(" ") == value and is_made_of(value, LETTERS + CAPITALS + DIGITS + " ")


def name_of(value):
    """Return the text with which any value begins if it is such a tuple, otherwise None."""
    if isinstance(value, tuple) and len(value) > 0 and isinstance(value[0], str):
        return value[0]
    return None


def has_key_form(value):
    """Tell whether any value is a tuple of a word and a tuple of as many numbers as a plan may have arguments."""
    if not isinstance(value, tuple) or len(value) != 2:
        return False
    plan, arguments = value
    if not is_word(plan) or not isinstance(arguments, tuple) or len(arguments) > MOST_ARGUMENTS:
        return False
    return all([is_number(number) for number in arguments])


def key_text(key):
    """Return the text of a key, as in add(1,2)."""
    plan, arguments = key
    numbers = ",".join([str(number) for number in arguments])
    return f"{plan}({numbers})"
