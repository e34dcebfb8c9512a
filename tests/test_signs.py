"""What numbers, names, words, keys, rows and plain texts are."""

import unittest

from menutree import signs


class Signs(unittest.TestCase):
    def check(self, asked, right, wrong):
        for thing in right:
            self.assertIs(asked(thing), True, thing)
        for thing in wrong:
            self.assertIs(asked(thing), False, thing)

    def test_the_orders(self):
        self.assertEqual(signs.KEYS, "0123456789*#")
        self.assertEqual(signs.SIGNS, "0123456789*#w")

    def test_whole_numbers(self):
        self.check(signs.is_whole, (0, 1, -1, 10**30), (True, False, None, "1", 1.0, [], ()))

    def test_names(self):
        right = ("a", "z", "backs", "bac", "abcdefgh")
        self.check(signs.is_name, right, ("", "back", "abcdefghi", "A", "a1", "a b", "a ", "\u00e4", "a\n", "a`", "{"))

    def test_words(self):
        right = ("a", "back", "abcdefghijkl")
        self.check(signs.is_word, right, ("", "abcdefghijklm", "A", "a-b", " a", "\u00df"))

    def test_keys(self):
        self.check(signs.is_key, tuple("0123456789*#"), ("", "w", "12", "*#", "a", " ", "\u00b2", "\uff11"))

    def test_rows(self):
        self.check(signs.is_row, ("", "w", "0123456789*#w", "w" * 200), (" ", "W", "1 2", "1\n", "a", "\u0661"))

    def test_plain_texts(self):
        every = "".join(chr(number) for number in range(32, 127) if number != 37)
        right = (" ", "~", "  ", "a" * 80, every[:80], every[80:])
        wrong = ("", "a" * 81, "%", "a%b", "a\n", "\t", "\x1f", "\x7f", "\u00e4", "\u2028", "\ud800")
        self.check(signs.is_plain, right, wrong)

    def test_numbers_by_figures(self):
        for number in range(0, 30):
            told = number if 1 <= number <= 24 else None
            self.assertEqual(signs.number_within(str(number), 1, 24), told)
        self.assertEqual(signs.number_within("0", 0, 23), 0)

    def test_what_writes_no_number(self):
        wrong = ("", " ", "00", "01", "+1", "-1", "-0", "1 ", " 1", "1\n", "1_0", "1.0", "x", "\u00b2", "\uff11", "1" * 9999)
        for text in wrong:
            self.assertIsNone(signs.number_within(text, 0, 24), text)
