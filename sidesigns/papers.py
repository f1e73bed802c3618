"""The form of papers, which are tuples that begin with a word."""


def is_told(value, word, size):
    """Whether a value is a tuple of so many members that begins with a word."""
    return isinstance(value, tuple) and len(value) == size and value[0] == word
