"""What things are made of: integers and names."""

LONGEST_NAME = 8


def is_whole(value):
    """Whether any value is an integer; a bool is none."""
    return isinstance(value, int) and not isinstance(value, bool)


def is_name(value):
    """Whether any value is a string of 1 to 8 letters from a to z."""
    if not isinstance(value, str) or len(value) > LONGEST_NAME:
        return False
    # The three together leave only a to z, and nothing of the empty string.
    return value.isascii() and value.isalpha() and value.islower()
