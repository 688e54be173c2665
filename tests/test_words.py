"""Names and numbers: points 19 and 20."""

import string
import unittest

from callmatch.words import is_name, number_of

KEPT = ("function", "call", "dye", "wash", "if", "to", "return", "back", "here")
SIGNS = [chr(k) for k in range(32, 127)] + ["\n", "\t", "\r", "\0", "\u00e4", "\u00df", "\u0430", "\u0131", "\u00aa"]


class Names(unittest.TestCase):
    def assert_names(self, texts, wanted):
        for text in texts:
            self.assertIs(is_name(text), wanted, repr(text))

    def test_one_small_letter(self):
        self.assert_names(string.ascii_lowercase, True)

    def test_lengths(self):
        self.assert_names(["ab", "abc", "abcdefg", "abcdefgh", "zzzzzzzz"], True)
        self.assert_names(["", "abcdefghi", "a" * 9, "z" * 400], False)

    def test_kept_words(self):
        self.assert_names(KEPT, False)

    def test_kept_words_with_a_letter_more_or_less(self):
        for word in KEPT:
            self.assert_names([text for text in (word + "s", "a" + word) if len(text) <= 8], True)
            self.assert_names([word[1:], word[:-1]], True)
        self.assert_names(["functions", "afunction"], False)
        self.assert_names(["functio", "unction"], True)

    def test_words_that_are_not_kept(self):
        self.assert_names(["step", "over", "in", "out", "none", "number", "copy", "does", "begin", "start"], True)

    def test_other_signs(self):
        for sign in SIGNS:
            if sign not in string.ascii_lowercase:
                self.assert_names([sign, "a" + sign, sign + "a", "ab" + sign + "cd"], False)

    def test_great_letters(self):
        self.assert_names(string.ascii_uppercase, False)
        self.assert_names(["Ab", "aB", "IF", "Function"], False)


class Numbers(unittest.TestCase):
    def assert_none(self, texts):
        for text in texts:
            self.assertIsNone(number_of(text), repr(text))

    def assert_number(self, text, wanted):
        told = number_of(text)
        self.assertIs(type(told), int, text)
        self.assertEqual(told, wanted)

    def test_figures(self):
        for n in list(range(200)) + [10 ** k for k in range(18)] + [10 ** k - 1 for k in range(1, 19)]:
            self.assert_number(str(n), n)

    def test_eighteen_and_nineteen_figures(self):
        self.assert_number("1" * 18, 111111111111111111)
        self.assert_number("9" * 18, 10 ** 18 - 1)
        self.assert_none(["1" * 19, "9" * 19, "1" + "0" * 18, "1" * 400])

    def test_noughts_ahead(self):
        self.assert_none(["00", "01", "007", "010", "0" * 18, "0" * 17 + "1"])

    def test_signs_ahead(self):
        self.assert_none(["+1", "-1", "-0", "+0", "-", "+"])

    def test_blanks_and_marks(self):
        self.assert_none(["1_0", " 1", "1 ", "1 0", "1\n", "\n1", "\t1", "1.0", "1e3", "0x1", "1,0", " ", "_1"])

    def test_no_signs(self):
        self.assert_none([""])

    def test_letters_among_figures(self):
        self.assert_none(["a", "1a", "a1", "1a1", "10l", "1O"])

    def test_figures_beyond_the_plain_ones(self):
        self.assert_none(["\u0661", "1\u0662", "\u00b2", "\uff11", "\u0967"])

    def test_each_sign(self):
        for sign in SIGNS:
            if sign in string.digits:
                self.assert_number("1" + sign, 10 + int(sign))
            else:
                self.assert_none([sign, "1" + sign, sign + "1"])


if __name__ == "__main__":
    unittest.main()
