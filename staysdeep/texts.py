"""Yards, standings and walks as texts, there and back."""

from staysdeep.errors import InvalidText
from staysdeep.atoms import is_name
from staysdeep.yards import FEWEST_STACKS, GREATEST_HEIGHT, MOST_STACKS, Yard


def need_text(value):
    """Raises `InvalidText(-1)` for what is no string."""
    if not isinstance(value, str):
        raise InvalidText(-1)


def parts(text, sign):
    """What stands between the signs; the empty text has no parts."""
    return text.split(sign) if text else []


def number_words(first, last):
    """The numbers from the first to the last one, as `str` writes them."""
    return [str(number) for number in range(first, last + 1)]


def yard_text(yard):
    """The heights, parted by blanks."""
    return " ".join([str(height) for height in yard.heights])


def read_yard(text):
    """The yard that has this text."""
    need_text(text)
    words = parts(text, " ")
    known = number_words(1, GREATEST_HEIGHT)
    for at, word in enumerate(words):
        if at == MOST_STACKS or word not in known:
            raise InvalidText(at)
    if len(words) < FEWEST_STACKS:
        raise InvalidText(len(words))
    return Yard([int(word) for word in words])


def standing_text(standing):
    """A line for each stack, its boxes parted by blanks, the lowest first."""
    return "\n".join([" ".join(pile) for pile in standing])


def read_standing(text):
    """The standing that has this text."""
    need_text(text)
    lines = text.split("\n")
    seen = set()
    standing = []
    for at, line in enumerate(lines):
        pile = parts(line, " ")
        if at == MOST_STACKS or len(pile) > GREATEST_HEIGHT:
            raise InvalidText(at)
        for box in pile:
            if not is_name(box) or box in seen:
                raise InvalidText(at)
            seen.add(box)
        standing.append(tuple(pile))
    if len(lines) < FEWEST_STACKS:
        raise InvalidText(len(lines))
    return tuple(standing)


def walk_text(walk):
    """A line for each move, its two stacks parted by a blank."""
    return "\n".join([f"{stack} {other}" for stack, other in walk])


def read_walk(text):
    """The walk that has this text."""
    need_text(text)
    known = number_words(0, MOST_STACKS - 1)
    walk = []
    for at, line in enumerate(parts(text, "\n")):
        words = line.split(" ")
        if len(words) != 2 or words[0] == words[1] or any([word not in known for word in words]):
            raise InvalidText(at)
        walk.append((int(words[0]), int(words[1])))
    return tuple(walk)
