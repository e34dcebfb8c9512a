"""Houses are shown as text and read back."""

import copy
import random
import unittest

import samples
from menutree.houses import read_house, show_house


class Kinds(unittest.TestCase):
    """The very kinds, too: a list is no tuple, True is no whole number."""

    def check_kinds(self, house):
        self.assertIs(type(house), dict)
        self.assertEqual(list(house), ["first", "letters", "rooms"])
        self.assertIs(type(house["first"]), str)
        self.assertIs(type(house["letters"]), list)
        for pair in house["letters"]:
            self.check_plain(pair)
        self.assertIs(type(house["rooms"]), dict)
        for name, room in house["rooms"].items():
            self.assertIs(type(name), str)
            self.check_plain(room)
            self.assertIs(type(room), tuple)

    def check_plain(self, thing):
        self.assertIn(type(thing), (tuple, str, int))
        if isinstance(thing, tuple):
            for part in thing:
                self.check_plain(part)


class ShowAndRead(Kinds):
    def check(self, house, text=None):
        before = copy.deepcopy(house)
        shown = show_house(house)
        if text is not None:
            self.assertEqual(shown, text)
        self.assertEqual(house, before)
        self.assertEqual(list(house["rooms"]), list(before["rooms"]))
        read = read_house(shown)
        self.assertEqual(read, before)
        self.assertEqual(list(read["rooms"]), list(before["rooms"]))
        self.check_kinds(read)
        self.assertEqual(show_house(read), shown)

    def test_every_sort_of_room(self):
        self.check(samples.full_house(), samples.FULL_TEXT)

    def test_each_sort_alone(self):
        self.check(samples.house_of({"a": ("menu", "Hi", (), (1, "b"), (9, "c"))}), "first a\nmenu a 1 b 9 c Hi")
        names = ("names", "Who", (("x", "b"),), (9, "b"), (1, "c"))
        self.check(samples.house_of({"a": names}), "first a\nnames a 9 b 1 c Who\nname x b")
        self.check(samples.house_of({"a": ("hours", (), "b")}), "first a\nhours a b")
        self.check(samples.house_of({"a": ("hand", "Hi")}), "first a\nhand a Hi")
        self.check(samples.house_of({"a": ("end", "Hi")}), "first a\nend a Hi")

    def test_the_order_of_rooms_is_kept(self):
        rooms = {"b": ("end", "1"), "a": ("hand", "2"), "c": ("end", "3")}
        self.check(samples.house_of(rooms), "first a\nend b 1\nhand a 2\nend c 3")

    def test_letters(self):
        ten = [(key, letter) for key, letter in zip("0123456789*", "kjihgfedcba")]
        self.check(samples.house_of({"a": ("end", "x")}, ten))
        every = [("*", "zyxwvutsrqponmlkjihgfedcba")]
        self.check(samples.house_of({"a": ("end", "x")}, every), f"first a\nletters * {every[0][1]}\nend a x")

    def test_twelve_rooms(self):
        rooms = {name: ("hand", name) for name in reversed(samples.numbered_names(12))}
        self.check(samples.house_of(rooms))

    def test_twelve_rows_beneath(self):
        keys = tuple((key, "back") for key in samples.KEYS)
        words = tuple((name, "a") for name in samples.numbered_names(12))
        spans = ((3, 5, "a"),) * 6 + ((0, 24, "b"), (0, 1, "c"), (23, 24, "d"), (9, 10, "e"), (1, 2, "f"), (0, 24, "b"))
        rooms = {
            "m": ("menu", "x", keys, (1, "a"), (1, "a")),
            "n": ("names", "x", words, (9, "a"), (9, "a")),
            "h": ("hours", spans, "a"),
        }
        self.check(samples.house_of(rooms))

    def test_limits(self):
        for wrong in range(1, 10):
            for waits in (1, 9):
                self.check(samples.house_of({"a": ("menu", "x", (), (wrong, "a"), (waits, "b"))}))

    def test_spans(self):
        for begin in range(24):
            for till in range(begin + 1, 25):
                room = ("hours", ((begin, till, "b"),), "c")
                self.check(samples.house_of({"a": room}), f"first a\nhours a c\nfrom {begin} {till} b")

    def test_texts(self):
        every = "".join(chr(number) for number in range(32, 127) if number != 37)
        texts = (" ", "~", "x", "  ", " x", "x ", " a  b   c ", "x" * 80, " " * 80, every[:80], every[-80:], "3 a 4 b")
        for text in texts:
            rooms = {
                "m": ("menu", text, (), (1, "a"), (9, "b")),
                "n": ("names", text, (("w", "a"),), (1, "a"), (9, "b")),
                "h": ("hand", text),
                "e": ("end", text),
            }
            self.check(samples.house_of(rooms))

    def test_names_and_words_at_their_edges(self):
        words = (("a", "b"), ("aa", "b"), ("ab", "b"), ("abcdefghijkl", "backs"), ("back", "bac"), ("z", "abcdefgh"))
        rooms = {"abcdefgh": ("names", "x", words, (1, "z"), (1, "menu"))}
        self.check(samples.house_of(rooms, first="first"))

    def test_names_like_the_first_words_of_rows(self):
        rooms = {name: ("hand", name) for name in ("first", "letters", "menu", "key", "names", "name", "hours", "from")}
        rooms["end"] = ("menu", "key 1 a", (("1", "hand"), ("2", "back")), (1, "menu"), (1, "end"))
        self.check(samples.house_of(rooms, first="letters"))

    def test_some_hundred_houses(self):
        chance = random.Random(20)
        for count in range(400):
            self.check(samples.some_house(chance))


class OwnThings(unittest.TestCase):
    def test_what_was_read_is_the_askers_own(self):
        read = read_house(samples.FULL_TEXT)
        read["first"] = "other"
        read["letters"].clear()
        read["rooms"]["door"] = ("end", "x")
        self.assertEqual(read_house(samples.FULL_TEXT), samples.full_house())

    def test_two_answers_share_no_list_and_no_dict(self):
        one, other = read_house(samples.FULL_TEXT), read_house(samples.FULL_TEXT)
        self.assertIsNot(one, other)
        self.assertIsNot(one["letters"], other["letters"])
        self.assertIsNot(one["rooms"], other["rooms"])

    def test_what_is_shown_hangs_on_the_house_alone(self):
        house = samples.full_house()
        self.assertEqual(show_house(house), samples.FULL_TEXT)
        house["rooms"]["bye"] = ("end", "Bye")
        self.assertTrue(show_house(house).endswith("\nend bye Bye"))
        self.assertEqual(show_house(samples.full_house()), samples.FULL_TEXT)

    def test_nothing_is_refused_in_showing_for_being_somewhat_greater(self):
        rooms = {name: ("end", "x" * 81) for name in samples.numbered_names(13)}
        self.assertEqual(show_house(samples.house_of(rooms)).count("\n"), 13)
