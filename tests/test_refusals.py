"""Texts that are no houses are refused, with the number of the row to blame."""

import unittest

import samples
from menutree.errors import MenuError, NoHouse
from menutree.houses import read_house

NAMES_WRONG = ("", "back", "abcdefghi", "A", "a1", "a-b", "\u00e4", "a\t")
MANY_WRONG = ("", "0", "10", "01", "00", "+1", "-1", "1.0", "x", "\u00b2", "\uff11", "9" * 5000)
TEXTS_WRONG = ("", "x" * 81, " " * 81, "%", "100% sure", "a\tb", "a\r", "\x7f", "\x00", "\u00e4", "\u2028")


class Refusals(unittest.TestCase):
    def check(self, text, row):
        with self.assertRaises(NoHouse) as caught:
            read_house(text)
        self.assertEqual(caught.exception.row, row, text)
        self.assertIs(type(caught.exception.row), int)
        self.assertIsInstance(caught.exception, MenuError)

    def check_third(self, row, ahead="first a\nhand a x\n"):
        """The row is to blame as the third one, at the end and with good and bad rows behind it."""
        self.check(ahead + row, 3)
        self.check(ahead + row + "\nend zz x", 3)
        self.check(ahead + row + "\n\nfirst a", 3)


class NoText(Refusals):
    def test_what_is_no_text(self):
        for thing in (0, 1, None, True, False, [], ["first a", "end a x"], {}, (), 1.5, b"first a\nend a x", object(), str):
            self.check(thing, 1)

    def test_a_house_is_no_text(self):
        house = samples.full_house()
        self.check(house, 1)
        self.assertEqual(house, samples.full_house())

    def test_without_signs(self):
        self.check("", 1)


class Rows(Refusals):
    def test_another_first_word(self):
        for row in ("", " ", "x", "room a", "First a", "Hand b x", "hands b x", "han b x", " hand b x", "\thand b x"):
            self.check_third(row)
        self.check("second a\nend a x", 1)
        self.check(" first a\nend a x", 1)

    def test_words_too_few_or_too_many(self):
        for row in ("hand", "hand b", "hand b ", "end", "end b", "hours", "hours b", "hours b c d", "hours b c "):
            self.check_third(row)
        for row in ("menu", "menu b 1 a 1 a", "menu b 1 a 1 a ", "menu b 1 a a x", "names b 1 a 1 a", "names b 1 1 a x"):
            self.check_third(row)
        for row in ("key", "key 1", "key 1 a b", "key 1 a "):
            self.check_third(row, "first a\nmenu a 1 a 1 a x\n")
        for row in ("name", "name w", "name w a b", "name w a "):
            self.check_third(row, "first a\nnames a 1 a 1 a x\n")
        for row in ("from", "from 1", "from 1 2", "from 1 2 a b", "from 1 2 a "):
            self.check_third(row, "first a\nhours a b\n")
        for row in ("first", "first ", "first a b", "first a "):
            self.check(row + "\nend a x", 1)
        for row in ("letters", "letters 2", "letters 2 ", "letters 2 a b", "letters 2 a "):
            self.check("first a\n" + row + "\nend a x", 2)

    def test_blanks_twice(self):
        for row in ("hand  b x", "hours  b c", "hours b  c", "menu  b 1 a 1 a x", "menu b  1 a 1 a x", "menu b 1  a 1 a x"):
            self.check_third(row)
        for row in ("menu b 1 a  1 a x", "menu b 1 a 1  a x", "names b 1 a  1 a x"):
            self.check_third(row)
        for row in ("key  1 a", "key 1  a"):
            self.check_third(row, "first a\nmenu a 1 a 1 a x\n")
        for row in ("name  w a", "name w  a"):
            self.check_third(row, "first a\nnames a 1 a 1 a x\n")
        for row in ("from  1 2 a", "from 1  2 a", "from 1 2  a"):
            self.check_third(row, "first a\nhours a b\n")
        self.check("first  a\nend a x", 1)
        self.check("first a\nletters  2 a\nend a x", 2)
        self.check("first a\nletters 2  a\nend a x", 2)

    def test_row_ends(self):
        self.check("\n" + samples.FULL_TEXT, 1)
        self.check(samples.FULL_TEXT + "\n", 21)
        self.check(samples.FULL_TEXT + "\n\n", 21)
        self.check("first a\n\nend a x", 2)
        self.check("first a\r\nend a x", 1)
        self.check("first a\rend a x", 1)
        self.check("first a\n", 2)

    def test_names(self):
        for name in NAMES_WRONG:
            self.check(f"first {name}\nend a x", 1)
            for row in (f"hand {name} x", f"end {name} x", f"hours {name} b", f"hours b {name}"):
                self.check_third(row)
            for kind in ("menu", "names"):
                for row in (f"{kind} {name} 1 a 1 a x", f"{kind} b 1 {name} 1 a x", f"{kind} b 1 a 1 {name} x"):
                    self.check_third(row)
            self.check_third(f"name w {name}", "first a\nnames a 1 a 1 a x\n")
            self.check_third(f"from 1 2 {name}", "first a\nhours a b\n")
            if name != "back":
                self.check_third(f"key 1 {name}", "first a\nmenu a 1 a 1 a x\n")

    def test_how_many(self):
        for many in MANY_WRONG:
            for kind in ("menu", "names"):
                self.check_third(f"{kind} b {many} a 1 a x")
                self.check_third(f"{kind} b 1 a {many} a x")

    def test_spans(self):
        for span in ("0 0", "5 5", "6 5", "24 24", "24 25", "23 25", "0 25", "-1 5", "+1 5", "01 5", "1 05", "1 005"):
            self.check_third(f"from {span} b", "first a\nhours a b\n")
        for span in (" 5", "5 ", "a 5", "5 a", "00 5", "0 " + "9" * 5000, "100 200", "\u00b2 5"):
            self.check_third(f"from {span} b", "first a\nhours a b\n")

    def test_words(self):
        for word in ("", "abcdefghijklm", "A", "a1", "a-b", "\u00e4", "w\t"):
            self.check_third(f"name {word} a", "first a\nnames a 1 a 1 a x\n")

    def test_keys(self):
        for key in ("", "w", "a", "12", "**", "*#", "\u00b2", "+"):
            self.check_third(f"key {key} a", "first a\nmenu a 1 a 1 a x\n")
            self.check(f"first a\nletters {key} a\nend a x", 2)

    def test_texts(self):
        for text in TEXTS_WRONG:
            for row in (f"hand b {text}", f"end b {text}", f"menu b 1 a 1 a {text}", f"names b 1 a 1 a {text}"):
                self.check_third(row)

    def test_letters(self):
        for letters in ("", "A", "a1", "\u00e4", "aa", "aba", "abcdefghijklmnopqrstuvwxyza", "a#"):
            self.check(f"first a\nletters 2 {letters}\nend a x", 2)


class Places(Refusals):
    def test_the_first_row_is_first(self):
        self.check("end a x", 1)
        self.check("end a x\nfirst a", 1)
        self.check("letters 2 a\nfirst a\nend a x", 1)
        self.check("key 1 a\nfirst a\nend a x", 1)

    def test_a_second_first(self):
        self.check("first a\nfirst a\nend a x", 2)
        self.check("first a\nletters 2 a\nfirst b\nend a x", 3)
        self.check("first a\nend a x\nfirst b", 3)

    def test_letters_behind_a_room(self):
        self.check_third("letters 2 a")
        self.check_third("letters 2 a", "first a\nmenu a 1 a 1 a x\n")

    def test_rows_ahead_of_all_rooms(self):
        for row in ("key 1 a", "name w a", "from 1 2 a"):
            self.check(f"first a\n{row}\nend a x", 2)
            self.check(f"first a\nletters 2 a\n{row}\nend a x", 3)

    def test_rows_beneath_a_room_of_another_sort(self):
        rooms = {
            "menu a 1 a 1 a x": "key 1 a",
            "names a 1 a 1 a x": "name w a",
            "hours a b": "from 1 2 a",
            "hand a x": None,
            "end a x": None,
        }
        for room, own in rooms.items():
            for row in ("key 1 a", "name w a", "from 1 2 a"):
                if row != own:
                    self.check_third(row, f"first a\n{room}\n")

    def test_only_the_last_room_takes_rows(self):
        self.check("first a\nmenu a 1 a 1 a x\nkey 1 a\nend b x\nkey 2 a", 5)
        self.check("first a\nhours a b\nfrom 1 2 a\nmenu b 1 a 1 a x\nfrom 2 3 a", 5)


class Orders(Refusals):
    def test_keys(self):
        head = "first a\nmenu a 1 a 1 a x\n"
        for keys in ("11", "21", "#*", "*9", "#0", "##"):
            self.check(head + f"key {keys[0]} a\nkey {keys[1]} b", 4)
        for keys in ("131", "132", "133", "0#*"):
            self.check(head + "\n".join(f"key {key} a" for key in keys), 5)

    def test_words(self):
        head = "first a\nnames a 1 a 1 a x\n"
        for one, other in (("a", "a"), ("b", "a"), ("ab", "a"), ("b", "abc")):
            self.check(head + f"name {one} a\nname {other} b", 4)
        for words in ("aca", "acb", "acc"):
            self.check(head + "\n".join(f"name {word} a" for word in words), 5)

    def test_letter_keys(self):
        for keys in ("22", "32", "*0", "91"):
            self.check(f"first a\nletters {keys[0]} a\nletters {keys[1]} b\nend a x", 3)
        for keys in ("242", "243", "244"):
            rows = [f"letters {key} {letter}" for key, letter in zip(keys, "abc")]
            self.check("\n".join(["first a"] + rows + ["end a x"]), 4)
        self.check("first a\nletters # a\nend a x", 2)
        self.check("first a\nletters * a\nletters # b\nend a x", 3)

    def test_a_letter_twice(self):
        self.check("first a\nletters 2 abc\nletters 3 dea\nend a x", 3)
        self.check("first a\nletters 2 abc\nletters 3 d\nletters 4 c\nend a x", 4)
        self.check("first a\nletters 2 abb\nend a x", 2)

    def test_rooms(self):
        self.check("first a\nhand a x\nend a x", 3)
        self.check("first a\nhand a x\nend b x\nhours a b", 4)

    def test_equal_and_falling_spans_may_stand(self):
        read_house("first a\nhours a b\nfrom 5 6 a\nfrom 5 6 a\nfrom 1 2 c")

    def test_a_thirteenth_room(self):
        names = samples.numbered_names(14)
        rows = ["first a"] + [f"hand {name} x" for name in names]
        self.check("\n".join(rows), 14)
        self.check("\n".join(rows[:14]), 14)
        read_house("\n".join(rows[:13]))

    def test_a_thirteenth_row_beneath(self):
        names = samples.numbered_names(14)
        words = ["first a", "names a 1 a 1 a x"] + [f"name {name} x" for name in names]
        self.check("\n".join(words), 15)
        spans = ["first a", "hours a b"] + ["from 1 2 a"] * 13
        self.check("\n".join(spans), 15)
        keys = ["first a", "menu a 1 a 1 a x"] + [f"key {key} a" for key in samples.KEYS] + ["key # a"]
        self.check("\n".join(keys), 15)
        for rows in (words, spans, keys):
            read_house("\n".join(rows[:14]))


class TheWhole(Refusals):
    def test_no_room(self):
        self.check("first a", 2)
        self.check("first a\nletters 2 abc", 3)
        self.check("first a\nletters 2 abc\nletters 3 def", 4)

    def test_names_without_a_word(self):
        self.check("first a\nnames a 1 a 1 a x", 2)
        self.check("first a\nletters 2 a\nnames a 1 a 1 a x\nend b x", 3)
        self.check("first a\nend b x\nnames c 1 a 1 a x\nnames d 1 a 1 a x", 3)
        self.check("first a\nnames c 1 a 1 a x\nname w a\nnames d 1 a 1 a x\nmenu e 1 a 1 a x", 4)

    def test_a_wrong_row_goes_ahead_of_names_without_a_word(self):
        self.check("first a\nnames a 1 a 1 a x\nend b x\nend b x", 4)
        self.check("first a\nnames a 1 a 1 a x\n", 3)
        self.check("first a\nnames a 1 a 1 a x\nkey 1 a", 3)
        self.check("first a\nend b \nnames a 1 a 1 a x", 2)

    def test_names_are_told_by_their_own_rows_alone(self):
        read_house("first a\nhand b names a\nmenu names 1 a 1 a names x")
