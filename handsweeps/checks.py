"""What the other modules accept as an integer, and as a tuple of the kind that a function returns."""


def is_integer(value):
    """Tell whether any value is an integer; True and False are none."""
    return isinstance(value, int) and not isinstance(value, bool)


def is_integer_within(value, low, high):
    """Tell whether any value is an integer from low to high."""
    return is_integer(value) and low <= value <= high


def begins_with(value, word, length):
    """Tell whether any value is a tuple of a length that begins with a word."""
    # The kind comes first because an object of a caller may say that it equals everything.
    return isinstance(value, tuple) and len(value) == length and isinstance(value[0], str) and value[0] == word
