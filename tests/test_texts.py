"""Point 10: yards, standings and walks as texts."""

import unittest
from itertools import product

from staysdeep.errors import InvalidText
from staysdeep.texts import read_standing, read_walk, read_yard, standing_text, walk_text, yard_text
from staysdeep.yards import Yard
from tests.helpers import TALLEST, Checks, any_values, every_standing, names

READERS = (read_yard, read_standing, read_walk)
NUMBERS = [str(number) for number in range(13)]


def yard_wrong_at(text):
    words = text.split(" ") if text != "" else []
    wrong = [at for at, word in enumerate(words) if word not in NUMBERS[1:] or at > 11]
    if wrong:
        return wrong[0]
    return len(words) if len(words) < 3 else None


def standing_wrong_at(text):
    before = []
    lines = text.split("\n")
    for at, line in enumerate(lines):
        words = line.split(" ") if line != "" else []
        before += words
        good = all(0 < len(word) < 9 and set(word) <= set("abcdefghijklmnopqrstuvwxyz") for word in words)
        if not good or at > 11 or len(words) > 12 or len(set(before)) < len(before):
            return at
    return len(lines) if len(lines) < 3 else None


def walk_wrong_at(text):
    lines = text.split("\n") if text != "" else []
    moves = [f"{stack} {other}" for stack in range(12) for other in range(12) if stack != other]
    wrong = [at for at, line in enumerate(lines) if line not in moves]
    return wrong[0] if wrong else None


class TextChecks(Checks):

    def check_text(self, read, write, wrong_at, text):
        """The text is refused where it is wrong; else what is read has just this text."""
        wrong = wrong_at(text)
        if wrong is not None:
            self.assert_told(InvalidText, wrong, read, text)
        else:
            self.assert_same(write(read(text)), text)

    def check_yard(self, text):
        self.check_text(read_yard, yard_text, yard_wrong_at, text)

    def check_standing(self, text):
        self.check_text(read_standing, standing_text, standing_wrong_at, text)

    def check_walk(self, text):
        self.check_text(read_walk, walk_text, walk_wrong_at, text)


class TestAnyText(TextChecks):

    def test_what_is_no_string(self):
        for value in any_values() + [b"2 1 1"]:
            if not isinstance(value, str):
                for read in READERS:
                    self.assert_told(InvalidText, -1, read, value)

    def test_strings_of_all_sorts(self):
        texts = [value for value in any_values() if isinstance(value, str)]
        texts += ["\t", "\r\n", "a\r\nb\r\nc", "1\t2\t3", "2 1 1\n", "a\n\n\n", "0 1\n", "\n0 1", "a\x0bb\x0cc", "\u2028"]
        for text in texts + ["\n" * many for many in range(14)] + [" " * many for many in range(4)]:
            self.check_yard(text)
            self.check_standing(text)
            self.check_walk(text)

    def test_short_texts_of_few_signs(self):
        for length in range(6):
            for signs in product("1 \na", repeat=length):
                text = "".join(signs)
                self.check_yard(text)
                self.check_standing(text)
                self.check_walk(text)

    def test_texts_of_60000_signs(self):
        with self.within(20):
            for sign in ("1", " ", "\n", "a", "1 ", "a ", "a\n", "0 1\n", "1 0\n1", "a b\n"):
                text = (sign * 60000)[:60000]
                self.check_yard(text)
                self.check_standing(text)
                self.check_walk(text)
            walk = "\n".join(["11 10"] * 9999)
            self.assertEqual(read_walk(walk), ((11, 10),) * 9999)
            self.check_walk(walk + "\n0 0")


class TestYardTexts(TextChecks):

    def test_there_and_back(self):
        for heights in list(product((1, 2, 9, 10, 12), repeat=3)) + [(1,) * 12, TALLEST, tuple(range(1, 13))]:
            text = yard_text(Yard(heights))
            self.assert_same(text, " ".join([str(height) for height in heights]))
            self.assert_same(read_yard(text).heights, heights)
            self.assertEqual(read_yard(text), Yard(heights))

    def test_words(self):
        for words in product(("1", "12", "13", "0", "01", "", "-1", "+1", "1.", "a", "\u0661", "\u00b2"), repeat=3):
            self.check_yard(" ".join(words))
        for text in ("1 1 1\n", "1\n1 1", "1 1 1 ", " 1 1 1", "1  1 1", "1 1 1\t", "1 1 1_", "1 1 1_0", "1 1 True"):
            self.check_yard(text)

    def test_number_of_words(self):
        for many in range(16):
            self.check_yard(" ".join(["3"] * many))
        self.assert_told(InvalidText, 0, read_yard, "")
        self.assert_told(InvalidText, 1, read_yard, "5")
        self.assert_told(InvalidText, 2, read_yard, "5 5")
        self.assert_told(InvalidText, 12, read_yard, " ".join(["5"] * 14))

    def test_the_first_wrong_word_is_told(self):
        self.assert_told(InvalidText, 0, read_yard, "0 x")
        self.assert_told(InvalidText, 1, read_yard, "2 x 0")
        self.assert_told(InvalidText, 11, read_yard, " ".join(["5"] * 11 + ["x", "5"]))
        self.assert_told(InvalidText, 12, read_yard, " ".join(["5"] * 12 + ["x", "x"]))


class TestStandingTexts(TextChecks):

    def test_there_and_back(self):
        for heights in ((2, 1, 1), (1, 1, 1, 1), (2, 2, 1)):
            for standing in every_standing(heights):
                text = standing_text(standing)
                self.assert_same(text, "\n".join([" ".join(pile) for pile in standing]))
                self.assert_same(read_standing(text), standing)

    def test_empty_lines(self):
        self.assert_same(standing_text(((), (), ())), "\n\n")
        self.assert_same(read_standing("\n\n"), ((), (), ()))
        self.assert_same(read_standing("\na b\n"), ((), ("a", "b"), ()))
        self.assert_same(read_standing("\n" * 11), ((),) * 12)

    def test_the_tallest_yard(self):
        boxes = names(144)
        full = tuple([boxes[at:at + 12] for at in range(0, 144, 12)])
        self.assert_same(read_standing(standing_text(full)), full)
        self.check_standing(standing_text(full) + "\n")
        self.check_standing(standing_text(full) + " zz")
        self.check_standing(" ".join(boxes[:13]) + "\n\n")

    def test_lines(self):
        lines = ("", "a", "b a", "a a", "c ", " c", "c  d", "C", "abcdefgh", "abcdefghi", "c1", "\u00e9", "c\td", "c\r")
        for text in product(lines, repeat=3):
            self.check_standing("\n".join(text))

    def test_number_of_lines(self):
        for many in range(1, 16):
            self.check_standing("\n".join(names(many)))
        self.assert_told(InvalidText, 1, read_standing, "")
        self.assert_told(InvalidText, 1, read_standing, "a b")
        self.assert_told(InvalidText, 2, read_standing, "a\n")
        self.assert_told(InvalidText, 12, read_standing, "\n" * 12)
        self.assert_told(InvalidText, 12, read_standing, "\n" * 12 + "a\nA")

    def test_number_of_boxes_of_a_line(self):
        for many in range(1, 16):
            self.check_standing("\n" + " ".join(names(many)) + "\n")
        self.assert_told(InvalidText, 1, read_standing, "\n" + " ".join(names(13)))

    def test_the_first_wrong_line_is_told(self):
        self.assert_told(InvalidText, 0, read_standing, "A\nB")
        self.assert_told(InvalidText, 1, read_standing, "a\na\nA")
        self.assert_told(InvalidText, 1, read_standing, "a\nb a")


class TestWalkTexts(TextChecks):

    def test_there_and_back(self):
        moves = [(stack, other) for stack in range(12) for other in range(12) if stack != other]
        walks = [(), tuple(moves)] + [(move,) for move in moves] + list(product(moves[9:13], repeat=3))
        for walk in walks:
            text = walk_text(walk)
            self.assert_same(text, "\n".join([str(stack) + " " + str(other) for stack, other in walk]))
            self.assert_same(read_walk(text), walk)

    def test_the_empty_text(self):
        self.assert_same(walk_text(()), "")
        self.assert_same(read_walk(""), ())

    def test_words(self):
        words = NUMBERS + ["", "-1", "+1", "00", "01", "a", "1.", "\u0661", "\u00b2", "1\t", "\r"]
        for one, other in product(words, repeat=2):
            self.check_walk(f"{one} {other}")
            self.check_walk(f"3 4\n{one} {other}\n5 5")

    def test_forms_of_lines(self):
        for line in ("0", "0 1 ", " 0 1", "0  1", "0 1 2", "0\t1", "0,1", "", " ", "1 1", "12 0", "0 12", "0 1\r"):
            self.check_walk(line)
            self.check_walk("0 1\n" + line)
            self.check_walk(line + "\n0 1")

    def test_the_first_wrong_line_is_told(self):
        self.assert_told(InvalidText, 0, read_walk, "\n")
        self.assert_told(InvalidText, 1, read_walk, "0 1\n0 0\nx")
        self.assert_told(InvalidText, 2, read_walk, "0 1\n1 0\n")

    def test_walks_that_no_small_yard_has(self):
        self.assert_same(read_walk("11 0\n0 11"), ((11, 0), (0, 11)))
        self.assert_same(walk_text(((0, 1),) * 3), "0 1\n0 1\n0 1")


if __name__ == "__main__":
    unittest.main()
