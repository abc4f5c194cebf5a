"""Points 23 and 24: the reader."""

import unittest

from interface import InterfaceChecks, methods_in
from provedunseen.errors import BadText
from provedunseen.reader import Reader


def reader_at(text, place):
    """A reader that has read the first characters of the text, one by one."""
    reader = Reader(text)
    for character in text[:place]:
        reader.piece(character)
    return reader


class ReaderTest(unittest.TestCase, InterfaceChecks):
    def test_interface(self):
        self.check_methods("reader", "Reader", {
            "__init__": "(self, text)", "follows": "(self, piece)", "piece": "(self, *pieces)",
            "number": "(self, *, least=0, most=99)", "finish": "(self)",
        })
        self.assertIsInstance(Reader.ended, property)
        self.assertIn("ended", methods_in("reader", "Reader"))

    def fails(self, text, place, at, call):
        """Check that the call raises BadText with this `at`, and that the place stays."""
        reader = reader_at(text, place)
        with self.assertRaises(BadText) as caught:
            call(reader)
        self.assertEqual(caught.exception.at, at)
        self.assertEqual((reader.text, reader.place), (text, place))

    def reads(self, text, place, result, behind, call):
        """Check what the call returns and the place behind it."""
        reader = reader_at(text, place)
        self.assertEqual(call(reader), result)
        self.assertEqual((reader.text, reader.place), (text, behind))

    def test_attributes(self):
        reader = Reader("ab")
        self.assertEqual((reader.text, reader.place), ("ab", 0))
        self.assertEqual(sorted(vars(reader)), ["place", "text"])

    def test_ended(self):
        self.assertIs(Reader("").ended, True)
        self.assertIs(Reader("a").ended, False)
        self.assertIs(reader_at("ab", 1).ended, False)
        self.assertIs(reader_at("ab", 2).ended, True)

    def test_follows(self):
        reader = reader_at("abcabd", 3)
        for piece, expected in (("a", True), ("ab", True), ("abd", True), ("abc", False), ("b", False),
                                ("abde", False), ("cab", False), ("A", False)):
            self.assertIs(reader.follows(piece), expected)
            self.assertEqual(reader.place, 3)
        self.assertIs(reader_at("ab", 2).follows("b"), False)

    def test_piece(self):
        self.reads("ring(3", 0, "ring(", 5, lambda reader: reader.piece("alike(", "ring("))
        self.reads("ring(3", 0, "r", 1, lambda reader: reader.piece("r"))
        self.reads("ab, c", 2, ", ", 4, lambda reader: reader.piece(")", ", "))
        self.reads("abab", 2, "ab", 4, lambda reader: reader.piece("ab", "b"))

    def test_piece_that_is_cut_short(self):
        for text, place in (("", 0), ("r", 0), ("ri", 0), ("ring", 0), ("xx", 2), ("xxri", 2), ("xxali", 2)):
            self.fails(text, place, len(text), lambda reader: reader.piece("alike(", "ring("))

    def test_piece_that_does_not_follow(self):
        for text, place in (("x", 0), ("rx", 0), ("ringo", 0), ("Ring(", 0), (" ring(", 0), ("ring(x", 1)):
            self.fails(text, place, place, lambda reader: reader.piece("alike(", "ring("))
        self.fails("a,b", 1, 1, lambda reader: reader.piece(", ", ")"))
        self.fails("a,", 1, 2, lambda reader: reader.piece(", ", ")"))

    def test_number(self):
        for text, number, behind in (("0", 0, 1), ("7", 7, 1), ("10", 10, 2), ("99", 99, 2), ("5-6", 5, 1),
                                     ("42 1", 42, 2), ("0)", 0, 1)):
            self.reads(text, 0, number, behind, lambda reader: reader.number())
        self.reads("a12;", 1, 12, 3, lambda reader: reader.number())

    def test_number_that_is_none(self):
        for text in ("", "x", "-1", " 1", "+1", "00", "01", "09", "100", "123", "007", "10000000000"):
            self.fails(text, 0, 0, lambda reader: reader.number())
            self.fails("zz" + text, 2, 2, lambda reader: reader.number())

    def test_limits_of_a_number(self):
        for number in range(100):
            text = f"{number};"
            for least, most in ((0, 0), (3, 6), (1, 10), (9, 11), (99, 99)):
                if least <= number <= most:
                    self.reads(text, 0, number, len(text) - 1, lambda reader: reader.number(least=least, most=most))
                else:
                    self.fails(text, 0, 0, lambda reader: reader.number(least=least, most=most))
        self.fails("2", 0, 0, lambda reader: reader.number(least=3))
        self.fails("7", 0, 0, lambda reader: reader.number(most=6))
        self.reads("7", 0, 7, 1, lambda reader: reader.number(least=7))

    def test_finish(self):
        self.reads("", 0, None, 0, lambda reader: reader.finish())
        self.reads("ab", 2, None, 2, lambda reader: reader.finish())
        self.fails("ab", 0, 0, lambda reader: reader.finish())
        self.fails("ab ", 2, 2, lambda reader: reader.finish())

    def test_one_behind_the_other(self):
        reader = Reader("left 12 0]")
        self.assertEqual(reader.piece("left ", "right "), "left ")
        self.assertEqual((reader.number(), reader.piece(" "), reader.number(most=0)), (12, " ", 0))
        with self.assertRaises(BadText):
            reader.piece("]]")
        self.assertEqual(reader.piece("]"), "]")
        self.assertIsNone(reader.finish())
        self.assertIs(reader.ended, True)


if __name__ == "__main__":
    unittest.main()
