"""What integers are, and tuples of them: the tests that all modules share."""


def is_integer(value):
    """Tell whether value is an int that is not a bool."""
    return isinstance(value, int) and not isinstance(value, bool)


def is_between(value, low, high):
    """Tell whether value is an integer from low to high, both of them included."""
    return is_integer(value) and low <= value <= high


def are_integers(value):
    """Tell whether value is a tuple, perhaps an empty one, of integers alone."""
    return isinstance(value, tuple) and all([is_integer(part) for part in value])
