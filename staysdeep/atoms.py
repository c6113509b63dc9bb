"""What things are made of: integers, names and lots of them, and whether values are just alike."""

LONGEST_NAME = 8
LETTERS = "abcdefghijklmnopqrstuvwxyz"


def is_whole(value):
    """Whether any value is an integer; a bool is none."""
    return isinstance(value, int) and not isinstance(value, bool)


def is_number(value):
    """Whether any value is an integer from 0 on."""
    return is_whole(value) and value >= 0


def is_name(value):
    """Whether any value is a string of 1 to 8 letters from a to z."""
    if not isinstance(value, str) or len(value) > LONGEST_NAME:
        return False
    # The three together leave only a to z, and nothing of the empty string.
    return value.isascii() and value.isalpha() and value.islower()


def is_lot(value):
    """Whether any value is an ascending tuple of names, without duplicates."""
    if not isinstance(value, tuple) or not all([is_name(name) for name in value]):
        return False
    return all([before < name for before, name in zip(value, value[1:])])


def is_same(value, wanted):
    """Whether any value is what is wanted: None, an integer, a string, or a tuple of such; no bool is an integer."""
    if wanted is None:
        return value is None
    if isinstance(wanted, tuple):
        if not isinstance(value, tuple) or len(value) != len(wanted):
            return False
        return all([is_same(thing, other) for thing, other in zip(value, wanted)])
    if isinstance(wanted, str):
        return isinstance(value, str) and value == wanted
    return is_whole(value) and value == wanted


def new_names(stem, taken, many):
    """So many names that begin with a stem, and are not among those that are taken."""
    names = []
    ending = ""
    while len(names) < many:
        ending = _next_ending(ending)
        if stem + ending not in taken:
            names.append(stem + ending)
    return names


def _next_ending(ending):
    """The letters behind some letters: by length, then as in a lexicon."""
    kept = ending.rstrip("z")
    turned = "a" * (len(ending) - len(kept))
    if kept == "":
        return "a" + turned
    return kept[:-1] + LETTERS[LETTERS.index(kept[-1]) + 1] + turned
