"""The examples at the ends of sections 3 and 4, and those of the README."""

import doctest
import pathlib
import unittest

README = pathlib.Path(__file__).resolve().parent.parent / "README.md"

SECTION_3 = """
    >>> from staysdeep.moves import bare_walk, lifted, moves_from, walked
    >>> from staysdeep.standings import count_standings, deep_boxes, standing_at, standing_number
    >>> from staysdeep.yards import Yard, deep_places, deep_row, layer
    >>> yard = Yard([2, 1, 1])
    >>> layer(yard, 0), deep_row(yard, 3), deep_places(yard, 3)
    (((0, 1), (1, 0), (2, 0)), (1, 0, 0), ((0, 0),))
    >>> count_standings(yard, 2), standing_at(yard, ("a", "b"), 4), standing_number(yard, (("b",), (), ("a",)))
    (8, (('a', 'b'), (), ()), 5)
    >>> start = (("a", "b"), ("c",), ())
    >>> deep_boxes(yard, start), moves_from(yard, start), lifted(yard, start, ((1, 2), (0, 1)))
    ((((0, 0), 'a'),), ((0, 2), (1, 2)), ('b', 'c'))
    >>> walked(yard, start, ((0, 2), (1, 0), (2, 1)))
    (('a', 'c'), ('b',), ())
    >>> bare_walk(((0, 1), (1, 2), (0, 1), (1, 0), (2, 1)))
    ((0, 1),)
"""

SECTION_4 = """
    >>> from staysdeep.classes import class_size, count_classes
    >>> from staysdeep.digs import dig_walk, shift_walk, wish_walk
    >>> from staysdeep.yards import Yard
    >>> yard, standing = Yard((3, 2, 1)), (("a", "b"), ("c", "d"), ())
    >>> count_classes(yard, 4), class_size(yard, 4)
    (4, 30)
    >>> dig_walk(yard, standing, "a"), shift_walk(yard, standing, "a")
    (((0, 2),), None)
    >>> wish_walk(yard, standing, "c", 0), wish_walk(yard, standing, "b", 1)
    (((1, 2), (1, 0)), ((1, 2), (0, 1)))
"""


class TestExamples(unittest.TestCase):

    def check_examples(self, text, name):
        test = doctest.DocTestParser().get_doctest(text, {}, name, name, 0)
        self.assertGreater(len(test.examples), 0)
        told = []
        doctest.DocTestRunner().run(test, out=told.append)
        self.assertEqual("".join(told), "")

    def test_section_3(self):
        self.check_examples(SECTION_3, "section 3")

    def test_section_4(self):
        self.check_examples(SECTION_4, "section 4")

    def test_readme(self):
        self.check_examples(README.read_text(encoding="utf-8"), "README.md")


if __name__ == "__main__":
    unittest.main()
