"""Promise [210], and of [211] names and the integers X."""

import unittest
from itertools import product

from tallyhull.lines import is_name, number_in, words_of


class Words(unittest.TestCase):
    """[210]"""

    def test_lines(self):
        for line, words in [
                ("a", ["a"]), ("a b", ["a", "b"]), ("show x", ["show", "x"]), ("! ~", ["!", "~"]),
                ("tuple c 0 -1 2", ["tuple", "c", "0", "-1", "2"]), ("1/2>3", ["1/2>3"]),
                ("matrix a 1 / 2", ["matrix", "a", "1", "/", "2"]), ("A B A", ["A", "B", "A"])]:
            self.assertEqual(words_of(line), words)

    def test_malformed(self):
        for line in ["", " ", "  ", " a", "a ", " a ", "a  b", "a   b", "a b  ", "  a", "a\tb", "a\nb", "a\n",
                     "\n", "\ta", "a\r", "a\x1f", "\x00", "a\x7f", "\x7f", "a\x80", "\xa0", "a\xa0b", "\xe4",
                     "a \u20ac", "\u2003", "a\u2028b", "\U0001f600", "a \x85"]:
            with self.subTest(line=line):
                self.assertIsNone(words_of(line))

    def test_all_signs(self):
        for number in range(300):
            told = words_of("a" + chr(number) + "b")
            if number == 32:
                self.assertEqual(told, ["a", "b"])
            else:
                self.assertEqual(told, ["a" + chr(number) + "b"] if 33 <= number <= 126 else None)

    def test_short_lines_against_the_words(self):
        for signs in product(" a~\n", repeat=4):
            line = "".join(signs)
            wrong = "\n" in line or "  " in line or line[0] == " " or line[-1] == " "
            self.assertEqual(words_of(line), None if wrong else line.split())

    def test_fresh_lists(self):
        once = words_of("a b")
        once.clear()
        self.assertEqual(words_of("a b"), ["a", "b"])


class Names(unittest.TestCase):
    """[211]"""

    def test_names(self):
        for word in ["a", "z", "ab", "matrix", "abcdefghijkl", "zzzzzzzzzzzz"]:
            self.assertIs(is_name(word), True)
        for word in ["", "A", "aB", "abcdefghijklm", "a" * 40, "a1", "1", "a-b", "a_b", "a b", " a", "a ",
                     "\xe4", "a\u0131", "\u0430", "a\n", "`", "{", "a{", "-", "\xdf", "\uff41"]:
            with self.subTest(word=word):
                self.assertIs(is_name(word), False)

    def test_numbers(self):
        for number in range(100):
            self.assertEqual(number_in(str(number)), number)
        for word in ["", "00", "01", "07", "09", "000", "007", "100", "101", "1000", "-1", "-0", "+1", " 1",
                     "1 ", "1\n", "a", "1a", "0x", "1.", "1_", "_1", "\u0661", "\u0667\u0661", "\xb2", "1\xb2",
                     "\uff11", "12345678901234567890"]:
            with self.subTest(word=word):
                self.assertIsNone(number_in(word))


if __name__ == "__main__":
    unittest.main()
