"""The faults of houses: each sort, their order, and how often each is told."""

import copy
import random
import unittest

import samples
import second
from menutree.faults import faults
from menutree.houses import read_house


class Faults(unittest.TestCase):
    def check(self, house, told):
        before = copy.deepcopy(house)
        answer = faults(house)
        self.assertEqual(answer, told)
        self.assertEqual(house, before)
        self.assertEqual(list(house["rooms"]), list(before["rooms"]))
        self.assertIs(type(answer), list)
        for fault in answer:
            self.assertIs(type(fault), tuple)

    def check_rooms(self, rooms, told, letters=(), first="a"):
        self.check(samples.house_of(rooms, letters, first), told)


class Lost(Faults):
    def test_the_first_one(self):
        self.check_rooms({"a": ("end", "x")}, [("lost", "", "b")], first="b")

    def test_each_place_where_a_room_is_named(self):
        self.check_rooms({"a": ("menu", "x", (), (1, "q"), (1, "a"))}, [("lost", "a", "q")])
        self.check_rooms({"a": ("menu", "x", (), (1, "a"), (1, "q"))}, [("lost", "a", "q")])
        self.check_rooms({"a": ("menu", "x", (("1", "q"),), (1, "a"), (1, "a"))}, [("lost", "a", "q")])
        words, letters = (("w", "q"),), [("9", "w")]
        self.check_rooms({"a": ("names", "x", words, (1, "a"), (1, "a"))}, [("lost", "a", "q")], letters)
        words = (("w", "a"),)
        self.check_rooms({"a": ("names", "x", words, (1, "q"), (1, "a"))}, [("lost", "a", "q")], letters)
        self.check_rooms({"a": ("names", "x", words, (1, "a"), (1, "q"))}, [("lost", "a", "q")], letters)
        self.check_rooms({"a": ("hours", (), "q")}, [("lost", "a", "q")])
        self.check_rooms({"a": ("hours", ((1, 2, "q"),), "b"), "b": ("end", "x")}, [("lost", "a", "q")])

    def test_the_order_of_the_text_in_a_menu(self):
        room = ("menu", "x", (("0", "s"), ("9", "p"), ("#", "t")), (1, "r"), (1, "q"))
        self.check_rooms({"a": room}, [("lost", "a", name) for name in "rqspt"])

    def test_the_order_of_the_text_in_a_room_of_names(self):
        room = ("names", "x", (("a", "s"), ("b", "p"), ("c", "t")), (1, "r"), (1, "q"))
        letters = [("1", "a"), ("2", "b"), ("3", "c")]
        self.check_rooms({"a": room}, [("lost", "a", name) for name in "rqspt"], letters)

    def test_the_order_of_the_text_in_a_room_of_hours(self):
        room = ("hours", ((5, 6, "s"), (1, 2, "p"), (3, 4, "t")), "z")
        self.check_rooms({"a": room}, [("lost", "a", name) for name in "zspt"])

    def test_room_by_room_in_the_order_of_the_dict(self):
        rooms = {"c": ("hours", (), "q"), "a": ("hours", (), "r"), "b": ("hours", (), "p")}
        self.check_rooms(rooms, [("lost", "", "z"), ("lost", "c", "q"), ("lost", "a", "r"), ("lost", "b", "p")], first="z")

    def test_as_often_as_it_is_named(self):
        rooms = {
            "a": ("menu", "x", (("1", "q"), ("2", "q"), ("3", "a")), (1, "q"), (1, "q")),
            "b": ("hours", ((1, 2, "q"), (1, 2, "q"), (1, 2, "a")), "q"),
        }
        self.check_rooms(rooms, [("lost", "", "q")] + [("lost", "a", "q")] * 4 + [("lost", "b", "q")] * 3, first="q")

    def test_back_never(self):
        keys = tuple((key, "back") for key in samples.KEYS)
        self.check_rooms({"a": ("menu", "x", keys, (1, "a"), (1, "a"))}, [])
        keys = (("1", "back"), ("2", "backs"), ("3", "back"))
        self.check_rooms({"a": ("menu", "x", keys, (1, "a"), (1, "a"))}, [("lost", "a", "backs")])

    def test_the_word_back_leads_to_a_room_like_others(self):
        room = ("names", "x", (("back", "q"),), (1, "a"), (1, "a"))
        self.check_rooms({"a": room}, [("lost", "a", "q")], [("2", "abck")])

    def test_words_and_texts_are_no_names_of_rooms(self):
        room = ("names", "q", (("q", "a"),), (1, "a"), (1, "a"))
        self.check_rooms({"a": room, "b": ("hand", "q"), "c": ("end", "q")}, [], [("2", "q")])


class Letters(Faults):
    def names(self, *words):
        return ("names", "x", tuple((word, "a") for word in words), (1, "a"), (1, "a"))

    def test_words_without_a_code(self):
        room = self.names("ab", "abz", "b", "z", "zab")
        told = [("letter", "a", "abz"), ("letter", "a", "z"), ("letter", "a", "zab")]
        self.check_rooms({"a": room}, told, [("2", "a"), ("3", "b")])

    def test_no_letters_at_all(self):
        self.check_rooms({"a": self.names("a", "back")}, [("letter", "a", "a"), ("letter", "a", "back")])

    def test_room_by_room(self):
        rooms = {"c": self.names("y", "z"), "a": self.names("a", "x"), "b": self.names("a")}
        told = [("letter", "c", "y"), ("letter", "c", "z"), ("letter", "a", "x")]
        self.check_rooms(rooms, told, [("2", "a")])

    def test_they_are_no_twins(self):
        self.check_rooms({"a": self.names("y", "z")}, [("letter", "a", "y"), ("letter", "a", "z")], [("2", "a")])


class Twins(Faults):
    def names(self, *words):
        return ("names", "x", tuple((word, "a") for word in words), (1, "a"), (1, "a"))

    def test_two(self):
        self.check_rooms({"a": self.names("ad", "be")}, [("twins", "a", "ad", "be")], [("2", "ab"), ("3", "de")])

    def test_codes_of_other_lengths_are_no_twins(self):
        self.check_rooms({"a": self.names("a", "ab", "abb")}, [], [("2", "ab")])

    def test_three_of_one_code(self):
        told = [("twins", "a", "a", "b"), ("twins", "a", "a", "c"), ("twins", "a", "b", "c")]
        self.check_rooms({"a": self.names("a", "b", "c")}, told, [("2", "abc")])

    def test_by_the_first_then_by_the_second(self):
        letters = [("2", "ac"), ("3", "bd")]
        told = [("twins", "a", "a", "c"), ("twins", "a", "b", "d")]
        self.check_rooms({"a": self.names("a", "b", "c", "d")}, told, letters)
        letters = [("2", "ace"), ("3", "bd")]
        told = [("twins", "a", one, other) for one, other in ("ac", "ae", "bd", "ce")]
        self.check_rooms({"a": self.names("a", "b", "c", "d", "e")}, told, letters)

    def test_with_words_without_a_code_between(self):
        told = [("letter", "a", "ax"), ("letter", "a", "bx"), ("twins", "a", "a", "b")]
        self.check_rooms({"a": self.names("a", "ax", "b", "bx")}, told, [("2", "ab")])

    def test_words_of_two_rooms_are_no_twins(self):
        self.check_rooms({"a": self.names("a"), "b": self.names("b")}, [], [("2", "ab")])

    def test_room_by_room(self):
        rooms = {"c": self.names("a", "b"), "a": self.names("c", "d"), "b": self.names("a", "b")}
        told = [("twins", "c", "a", "b"), ("twins", "a", "c", "d"), ("twins", "b", "a", "b")]
        self.check_rooms(rooms, told, [("2", "abcd")])


class Rings(Faults):
    def test_a_ring_of_one(self):
        self.check_rooms({"a": ("hours", (), "a")}, [("ring", hour, "a") for hour in range(24)])

    def test_at_its_hours_alone(self):
        rooms = {"a": ("hours", ((0, 1, "a"), (5, 7, "a"), (6, 8, "b"), (23, 24, "a")), "b"), "b": ("end", "x")}
        self.check_rooms(rooms, [("ring", hour, "a") for hour in (0, 5, 6, 23)])

    def test_a_ring_of_two_hour_by_hour_in_the_rooms_order(self):
        rooms = {"b": ("hours", ((3, 5, "a"),), "e"), "e": ("end", "x"), "a": ("hours", ((4, 6, "b"),), "e")}
        self.check_rooms(rooms, [("ring", 4, "b"), ("ring", 4, "a")])
        rooms = {"b": ("hours", ((3, 5, "a"),), "e"), "e": ("end", "x"), "a": ("hours", ((3, 6, "b"),), "e")}
        self.check_rooms(rooms, [("ring", 3, "b"), ("ring", 3, "a"), ("ring", 4, "b"), ("ring", 4, "a")])

    def test_a_ring_of_three(self):
        rooms = {"a": ("hours", ((9, 10, "c"),), "e"), "b": ("hours", (), "a"), "c": ("hours", (), "b"), "e": ("end", "x")}
        self.check_rooms(rooms, [("ring", 9, "a"), ("ring", 9, "b"), ("ring", 9, "c")])

    def test_a_ring_of_twelve(self):
        names = samples.numbered_names(12)
        rooms = {name: ("hours", ((7, 8, names[place - 1]),), name) for place, name in enumerate(names)}
        told = [("ring", hour, name) for hour in range(24) for name in names]
        self.check_rooms(rooms, told, first=names[0])

    def test_two_rings(self):
        rooms = {"a": ("hours", (), "c"), "b": ("hours", (), "d"), "c": ("hours", (), "a"), "d": ("hours", (), "b")}
        self.check_rooms(rooms, [("ring", hour, name) for hour in range(24) for name in "abcd"])

    def test_a_room_that_only_leads_into_a_ring(self):
        rooms = {"a": ("hours", (), "b"), "b": ("hours", (), "c"), "c": ("hours", ((1, 2, "c"),), "e"), "e": ("end", "x")}
        self.check_rooms(rooms, [("ring", 1, "c")])
        rooms["c"] = ("hours", ((1, 2, "b"),), "e")
        self.check_rooms(rooms, [("ring", 1, "b"), ("ring", 1, "c")])
        rooms["c"] = ("hours", ((1, 2, "a"),), "e")
        self.check_rooms(rooms, [("ring", 1, "a"), ("ring", 1, "b"), ("ring", 1, "c")])

    def test_a_way_that_ends_at_a_name_that_is_no_rooms(self):
        rooms = {"a": ("hours", (), "b"), "b": ("hours", ((2, 3, "a"),), "q")}
        self.check_rooms(rooms, [("lost", "b", "q"), ("ring", 2, "a"), ("ring", 2, "b")])

    def test_other_rooms_on_the_way_end_it(self):
        keys = (("1", "a"),)
        rooms = {"a": ("hours", (), "m"), "m": ("menu", "x", keys, (1, "a"), (1, "m"))}
        self.check_rooms(rooms, [])

    def test_rooms_of_hours_at_which_nobody_comes(self):
        self.check_rooms({"a": ("end", "x"), "b": ("hours", ((0, 1, "b"),), "a")}, [("ring", 0, "b")])


class Together(Faults):
    TEXT = """first nowhere
letters 2 abc
hours night loop
from 1 2 gone
from 2 3 night
names who 1 who 2 lost Whom?
name a backs
name b who
name x xroom
hours loop night
from 3 4 door
from 4 5 loop
menu door 1 door 1 door Hello
key 1 back
key 2 gone
names too 1 who 2 who Whom?
name c who
name y who"""

    def test_the_four_sorts_in_their_order(self):
        told = [("lost", "", "nowhere"), ("lost", "night", "gone"), ("lost", "who", "lost"), ("lost", "who", "backs"),
                ("lost", "who", "xroom"), ("lost", "door", "gone"), ("letter", "who", "x"), ("letter", "too", "y"),
                ("twins", "who", "a", "b")]
        for hour in range(24):
            # At 1 the night leads to nowhere, at 2 to itself; at 3 the loop leads to the door, at 4 to itself.
            names = {1: [], 2: ["night"], 3: [], 4: ["loop"]}.get(hour, ["night", "loop"])
            told += [("ring", hour, name) for name in names]
        self.check(read_house(self.TEXT), told)

    def test_houses_without_faults(self):
        self.check_rooms({"a": ("end", "x")}, [])
        self.check_rooms({"a": ("hand", "x")}, [])
        self.check_rooms({"a": ("menu", "x", (("1", "a"), ("2", "back")), (1, "a"), (9, "a"))}, [])
        self.check_rooms({"a": ("names", "x", (("a", "a"), ("ab", "a"), ("c", "a")), (1, "a"), (9, "a"))}, [],
                         [("2", "ab"), ("*", "c")])
        self.check_rooms({"a": ("hours", ((0, 9, "c"),), "b"), "b": ("hours", ((0, 24, "c"),), "a"), "c": ("end", "x")}, [])

    def test_the_house_of_the_samples(self):
        house = samples.full_house()
        told = [("lost", "who", "nowhere"), ("lost", "night", "nobody"), ("letter", "who", "adam"), ("letter", "who", "back")]
        self.check(house, told)

    def test_the_answer_is_the_askers_own(self):
        house = samples.house_of({"a": ("hours", (), "q")})
        faults(house).clear()
        kept = faults(house)
        self.assertEqual(kept, [("lost", "a", "q")])
        house["rooms"]["q"] = ("end", "x")
        self.assertEqual(kept, [("lost", "a", "q")])
        self.assertEqual(faults(house), [])

    def test_many_houses_by_a_second_way(self):
        chance = random.Random(12)
        seen = {"lost": 0, "letter": 0, "twins": 0, "ring": 0, "none": 0}
        for count in range(1500):
            house = samples.some_call_house(chance, chance.choice((0, 3, 20)))
            told = second.faults(house)
            self.check(house, told)
            for sort in {fault[0] for fault in told} or {"none"}:
                seen[sort] += 1
        self.assertGreater(min(seen.values()), 100, seen)
