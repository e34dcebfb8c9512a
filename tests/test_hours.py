"""To which rooms the rooms of hours hand over."""

import copy
import random
import unittest

import samples
import second
from menutree.hours import come_to, handed


def day_of(room):
    return [handed(room, hour) for hour in range(24)]


class Handed(unittest.TestCase):
    def test_no_spans(self):
        self.assertEqual(day_of(("hours", (), "z")), ["z"] * 24)

    def test_one_span(self):
        self.assertEqual(day_of(("hours", ((8, 12, "a"),), "z")), ["z"] * 8 + ["a"] * 4 + ["z"] * 12)

    def test_both_edges_of_each_span(self):
        for since in range(24):
            for till in range(since + 1, 25):
                told = day_of(("hours", ((since, till, "a"),), "z"))
                self.assertEqual(told, ["z"] * since + ["a"] * (till - since) + ["z"] * (24 - till))

    def test_the_first_and_the_last_hour(self):
        room = ("hours", ((0, 1, "a"), (23, 24, "b")), "z")
        self.assertEqual(handed(room, 0), "a")
        self.assertEqual(handed(room, 1), "z")
        self.assertEqual(handed(room, 22), "z")
        self.assertEqual(handed(room, 23), "b")
        whole = ("hours", ((0, 24, "a"),), "z")
        self.assertEqual((handed(whole, 0), handed(whole, 23)), ("a", "a"))

    def test_spans_that_cover_each_other(self):
        wide, narrow = (6, 18, "wide"), (9, 12, "narrow")
        self.assertEqual(day_of(("hours", (wide, narrow), "z")), ["z"] * 6 + ["wide"] * 12 + ["z"] * 6)
        told = ["z"] * 6 + ["wide"] * 3 + ["narrow"] * 3 + ["wide"] * 6 + ["z"] * 6
        self.assertEqual(day_of(("hours", (narrow, wide), "z")), told)

    def test_spans_that_cover_each_other_in_part(self):
        one, other = (5, 10, "a"), (8, 15, "b")
        self.assertEqual(day_of(("hours", (one, other), "z"))[5:15], ["a"] * 5 + ["b"] * 5)
        self.assertEqual(day_of(("hours", (other, one), "z"))[5:15], ["a"] * 3 + ["b"] * 7)

    def test_the_same_span_twice(self):
        self.assertEqual(handed(("hours", ((5, 6, "a"), (5, 6, "b")), "z"), 5), "a")

    def test_spans_in_no_order(self):
        room = ("hours", ((20, 22, "a"), (1, 3, "b"), (10, 11, "c")), "z")
        self.assertEqual([handed(room, hour) for hour in (21, 2, 10, 15)], ["a", "b", "c", "z"])

    def test_many_rooms(self):
        chance = random.Random(11)
        for count in range(300):
            begins = [chance.randint(0, 23) for span in range(chance.randint(0, 6))]
            spans = tuple((since, chance.randint(since + 1, 24), chance.choice("abcdef")) for since in begins)
            room = ("hours", spans, "z")
            self.assertEqual(day_of(room), second.day(room), room)


class ComeTo(unittest.TestCase):
    ROOMS = {
        "a": ("hours", ((8, 12, "b"), (12, 20, "m")), "c"),
        "b": ("hours", ((8, 10, "c"),), "n"),
        "c": ("hours", ((0, 9, "h"),), "e"),
        "m": ("menu", "x", (("1", "a"),), (1, "a"), (1, "b")),
        "n": ("names", "x", (("w", "a"),), (1, "a"), (1, "b")),
        "h": ("hand", "x"),
        "e": ("end", "x"),
    }

    def check(self, hour, name, come):
        house = samples.house_of(self.ROOMS)
        before = copy.deepcopy(house)
        self.assertEqual(come_to(house, hour, name), come)
        self.assertEqual(house, before)

    def test_a_room_that_is_none_of_hours(self):
        for hour in (0, 8, 23):
            for name in "mnhe":
                self.check(hour, name, name)

    def test_through_one_room_of_hours(self):
        self.check(12, "a", "m")
        self.check(19, "a", "m")
        self.check(7, "b", "n")
        self.check(0, "c", "h")
        self.check(23, "c", "e")

    def test_through_two(self):
        self.check(11, "a", "n")
        self.check(7, "a", "h")
        self.check(20, "a", "e")
        self.check(8, "b", "h")
        self.check(9, "b", "e")

    def test_through_three(self):
        self.check(8, "a", "h")
        self.check(9, "a", "e")

    def test_through_as_many_as_there_may_be(self):
        names = samples.numbered_names(12)
        rooms = {name: ("hours", (), follower) for name, follower in zip(names, names[1:])}
        rooms[names[-1]] = ("end", "x")
        self.assertEqual(come_to(samples.house_of(rooms), 0, names[0]), names[-1])

    def test_the_hour_holds_in_each_room_on_the_way(self):
        rooms = {"a": ("hours", ((5, 6, "b"),), "d"), "b": ("hours", ((5, 6, "c"),), "d"), "c": ("hand", "x"), "d": ("end", "x")}
        house = samples.house_of(rooms)
        self.assertEqual([come_to(house, hour, "a") for hour in (4, 5, 6)], ["d", "c", "d"])
