"""What integers, tuples and words are: the tests that all modules share."""

MOST_FIGURES = 4000


def is_integer(value):
    """Tell whether value is an int that is not a bool."""
    return isinstance(value, int) and not isinstance(value, bool)


def is_between(value, low, high):
    """Tell whether value is an integer from low to high, both of them included."""
    return is_integer(value) and low <= value <= high


def are_integers(value):
    """Tell whether value is a tuple, perhaps an empty one, of integers alone."""
    return isinstance(value, tuple) and all([is_integer(part) for part in value])


def is_tuple(value, many):
    """Tell whether value is a tuple of just so many values."""
    return isinstance(value, tuple) and len(value) == many


def is_word(value, word):
    """Tell whether value is this very string."""
    return isinstance(value, str) and value == word


def read_integer(word):
    """Return the integer that a word is, as Python writes it, or None if it is none."""
    figures = word.removeprefix("-")
    if not figures.isascii() or not figures.isdigit():
        return None
    # Python refuses to read integers that are a little longer than this; no text needs them.
    if len(figures) > MOST_FIGURES:
        return None
    number = int(word)
    return number if str(number) == word else None
