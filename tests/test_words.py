"""Codes of words, and the beginnings by which they are told apart."""

import itertools
import random
import unittest

import samples
import second
from menutree.words import beginnings, code_of

PHONE = (("2", "abc"), ("3", "def"), ("4", "ghi"), ("5", "jkl"), ("6", "mno"), ("7", "pqrs"), ("8", "tuv"), ("9", "wxyz"))


class Codes(unittest.TestCase):
    def check(self, letters, word, code):
        before = list(letters)
        self.assertEqual(code_of(letters, word), code)
        self.assertEqual(letters, before)

    def test_letters_on_several_keys(self):
        self.check(list(PHONE), "adam", "2326")
        self.check(list(PHONE), "zebra", "93272")
        self.check(list(PHONE), "abcdefghijkl", "222333444555")
        self.check(list(PHONE), "s", "7")

    def test_the_order_of_letters_on_a_key_is_free(self):
        self.check([("1", "zx"), ("7", "ya")], "zaxy", "1717")

    def test_letters_on_the_star(self):
        self.check([("0", "a"), ("*", "bz")], "azb", "0**")
        self.check([("*", "b")], "bbb", "***")

    def test_every_key(self):
        letters = [(key, letter) for key, letter in zip("0123456789*", "kjihgfedcba")]
        self.check(letters, "abcdefghijk", "*9876543210")

    def test_one_key_alone(self):
        every = "abcdefghijklmnopqrstuvwxyz"
        self.check([("5", every)], "abcxyz", "555555")
        for letter in every:
            self.check([("0", every)], letter, "0")

    def test_a_letter_on_no_key(self):
        for word in ("z", "za", "az", "aza", "abcdefghijkz"):
            self.check([("2", "abc"), ("3", "defghijkl")], word, None)

    def test_no_letters_at_all(self):
        for word in ("a", "back", "abcdefghijkl"):
            self.check([], word, None)

    def test_the_word_back_is_one_like_others(self):
        self.check(list(PHONE), "back", "2225")

    def test_the_kinds(self):
        self.assertIs(type(code_of(list(PHONE), "adam")), str)

    def test_what_was_asked_before_is_not_kept(self):
        letters = [("2", "abc")]
        self.assertEqual(code_of(letters, "ab"), "22")
        letters.append(("3", "d"))
        self.assertEqual(code_of(letters, "abd"), "223")
        letters[0] = ("1", "abc")
        self.assertEqual(code_of(letters, "ab"), "11")


class Beginnings(unittest.TestCase):
    def check(self, letters, words, told):
        before = (list(letters), list(words))
        answer = beginnings(letters, words)
        self.assertEqual(answer, list(zip(words, told)))
        self.assertEqual((letters, words), before)
        self.assertIs(type(answer), list)
        for pair in answer:
            self.assertEqual([type(pair)] + [type(part) for part in pair], [tuple, str, str])

    def test_apart_at_once(self):
        self.check(list(PHONE), ["adam", "eve", "mo"], ["2", "3", "6"])

    def test_apart_later(self):
        # 2326, 2382, 383
        self.check(list(PHONE), ["adam", "adva", "eve"], ["232", "238", "3"])
        # 2665, 2666, 2667
        self.check(list(PHONE), ["amok", "amon", "amos"], ["2665", "2666", "2667"])

    def test_a_word_that_begins_another_ones_code(self):
        # 26# and 2665#
        self.check(list(PHONE), ["an", "amok"], ["26#", "266"])
        # 2#, 22#, 222#
        self.check(list(PHONE), ["a", "aa", "aaa"], ["2#", "22#", "222"])
        self.check(list(PHONE), ["abc", "ab", "a"], ["222", "22#", "2#"])

    def test_words_that_end_apart_and_go_on(self):
        # 2#, 22#, 23#, 224#
        self.check(list(PHONE), ["a", "aa", "ad", "aag"], ["2#", "22#", "23", "224"])

    def test_one_word_alone(self):
        self.check(list(PHONE), ["adam"], ["2"])
        self.check(list(PHONE), ["z"], ["9"])
        self.check([("*", "a")], ["aaaaaaaaaaaa"], ["*"])

    def test_no_words(self):
        self.check(list(PHONE), [], [])
        self.check([], [], [])

    def test_words_are_told_in_their_order(self):
        right = {"a": "2#", "aa": "22#", "ad": "23", "aag": "224", "z": "9"}
        for words in itertools.permutations(right):
            self.check(list(PHONE), list(words), [right[word] for word in words])

    def test_the_star_is_a_key_like_others(self):
        self.check([("1", "b"), ("*", "a")], ["a", "ab", "b", "aa"], ["*#", "*1", "1", "**"])

    def test_twelve_long_words(self):
        words = ["abcabcabcab" + letter for letter in "adgjmptw"] + ["d", "dd", "g", "gj"]
        told = ["2" * 11 + key for key in "23456789"] + ["3#", "33", "4#", "45"]
        self.check(list(PHONE), words, told)

    def test_letters_on_other_keys_asked_between(self):
        one, other = [("2", "ab"), ("3", "c")], [("2", "a"), ("3", "bc")]
        for count in range(3):
            self.check(one, ["aa", "ac", "b"], ["22", "23", "2#"])
            self.check(other, ["aa", "ac", "b"], ["22", "23", "3"])
            self.check(one, ["aa", "c"], ["2", "3"])
            self.assertEqual((code_of(one, "abc"), code_of(other, "abc")), ("223", "233"))

    def test_the_answer_is_the_askers_own(self):
        letters, words = list(PHONE), ["an", "amok"]
        first = beginnings(letters, words)
        first.clear()
        self.assertEqual(beginnings(letters, words), [("an", "26#"), ("amok", "266")])
        kept = beginnings(letters, words)
        words.append("amol")
        letters.clear()
        self.assertEqual(kept, [("an", "26#"), ("amok", "266")])


class ManyWords(unittest.TestCase):
    def test_against_the_words_of_the_document(self):
        chance = random.Random(10)
        sizes = {}
        for count in range(1500):
            letters = samples.some_letters(chance)
            words = samples.parted_words(chance, letters, chance.randint(0, 12))
            told = beginnings(letters, words)
            self.assertEqual(told, second.beginnings(letters, words), (letters, words))
            for (word, one), (again, other) in itertools.permutations(told, 2):
                self.assertFalse(other.startswith(one), (letters, words))
            for word, one in told:
                sizes[len(one)] = sizes.get(len(one), 0) + 1
                self.assertEqual(code_of(letters, word), second.code(letters, word))
        self.assertGreater(len(sizes), 3)

    def test_codes_of_words_with_and_without_one(self):
        chance = random.Random(9)
        seen = {True: 0, False: 0}
        for count in range(1500):
            letters = samples.some_letters(chance)
            word = samples.some_text(chance, 12, "abcdef")
            self.assertEqual(code_of(letters, word), second.code(letters, word), (letters, word))
            seen[code_of(letters, word) is None] += 1
        self.assertGreater(min(seen.values()), 100)
