"""Places that are alike: their classes, and the rows by which others are parted."""

import copy
import random
import unittest

import samples
import second
from menutree.calls import heard, step
from menutree.classes import classes, parting
from menutree.houses import read_house
from menutree.pairs import compare
from menutree.reach import places

SIGNS = "0123456789*#w"


def state(room, back="", wrong=0, waits=0, typed=""):
    return (room, back, wrong, waits, typed)


def heard_behind(house, hour, now, row):
    """What is heard behind a row from a state on."""
    for sign in row:
        now = step(house, hour, now, sign)
    return heard(house, now)


class Sample(samples.SampleCase):
    def number_of(self, house, now, hour=0):
        """The number of the place with this state."""
        return [place[0] for place in places(house, hour)].index(now)


class Classes(Sample):
    def check(self, house, told, hour=0):
        answer = classes(house, hour)
        self.assertEqual(answer, told)
        self.check_form(house, hour)

    def check_form(self, house, hour=0):
        """What holds of the classes of every house: numbers as they come, heard alike, led alike."""
        answer = classes(house, hour)
        self.assertIs(type(answer), list)
        self.assertTrue(all(type(number) is int for number in answer))
        found = places(house, hour)
        self.assertEqual(len(answer), len(found))
        self.assertEqual(list(dict.fromkeys(answer)), list(range(max(answer) + 1)))
        number_of = {place[0]: number for place, number in zip(found, answer)}
        ways = {}
        for (now, row), number in zip(found, answer):
            way = (heard(house, now), [number_of[step(house, hour, now, sign)] for sign in SIGNS])
            self.assertEqual(ways.setdefault(number, way), way)
        return answer

    def test_a_small_house(self):
        self.check(self.small, [0, 1, 2, 0, 3, 1])

    def test_one_place(self):
        for kind in ("hand", "end"):
            self.check(samples.house_of({"a": (kind, "x")}), [0])

    def test_all_alike(self):
        self.check(samples.house_of({"a": ("menu", "x", (), (2, "a"), (1, "a"))}), [0, 0, 0, 0])

    def test_names(self):
        # Without a wrong key, with one, typed, dora, a wait, bye, then all of these behind one another.
        self.check(self.names, [0, 1, 2, 3, 4, 5, 6, 7, 8, 9, 10, 11])

    def test_what_is_typed_may_be_alike(self):
        rooms = {"a": ("names", "x", (("aa", "z"), ("ba", "z")), (9, "a"), (1, "a")), "z": ("end", "x")}
        house = samples.house_of(rooms, [("2", "a"), ("3", "b")])
        self.check_form(house)
        rooms = {"a": ("names", "x", (("aa", "y"), ("ab", "z"), ("ba", "y"), ("bb", "z")), (1, "a"), (1, "a")),
                 "y": ("end", "y"), "z": ("end", "z")}
        house = samples.house_of(rooms, [("2", "a"), ("3", "b")])
        told = self.check_form(house)
        two, three = self.number_of(house, state("a", typed="2")), self.number_of(house, state("a", typed="3"))
        self.assertEqual(told[two], told[three])
        self.assertNotEqual(told[two], told[0])

    def test_back_that_is_alike_and_not(self):
        rooms = {"a": ("menu", "x", (("1", "c"), ("2", "b")), (1, "a"), (1, "a")), "b": ("menu", "y", (("1", "c"),), (1, "b"), (1, "b")),
                 "c": ("menu", "z", (("7", "back"),), (1, "c"), (1, "c"))}
        house = samples.house_of(rooms)
        told = self.check_form(house)
        from_a, from_b = self.number_of(house, state("c", "a")), self.number_of(house, state("c", "b"))
        self.assertNotEqual(told[from_a], told[from_b])
        self.assertEqual(parting(house, 0, from_a, from_b), "7")
        rooms["c"] = ("menu", "z", (), (1, "c"), (1, "c"))
        house = samples.house_of(rooms)
        told = self.check_form(house)
        self.assertEqual(told[self.number_of(house, state("c", "a"))], told[self.number_of(house, state("c", "b"))])
        self.assertEqual(told[0], told[self.number_of(house, state("a", "a"))])

    def test_counts_that_are_alike_and_not(self):
        house = samples.house_of({"a": ("menu", "x", (), (3, "z"), (3, "a")), "z": ("end", "x")})
        told = self.check_form(house)
        one = told[self.number_of(house, state("a", "", 1))]
        self.assertNotEqual(one, told[0])
        self.assertNotEqual(one, told[self.number_of(house, state("a", "", 2))])
        # The third wait forgets wrong keys, so it is heard how many there were; where there are none, it is not.
        self.assertNotEqual(told[self.number_of(house, state("a", "", 0, 1))], told[0])
        house = samples.house_of({"a": ("menu", "x", (), (1, "z"), (3, "a")), "z": ("end", "x")})
        told = self.check_form(house)
        self.assertEqual(told[self.number_of(house, state("a", "", 0, 2))], told[0])

    def test_ends_of_one_text_and_rooms_of_one_text(self):
        rooms = {"a": ("menu", "x", (("1", "y"), ("2", "z"), ("3", "h")), (1, "a"), (1, "a")), "y": ("end", "e"), "z": ("end", "e"),
                 "h": ("hand", "e")}
        # a, a from a, y, z, h
        self.check(samples.house_of(rooms), [0, 0, 1, 1, 2])

    def test_classes_are_numbered_as_they_come(self):
        rooms = {"z": ("end", "a"), "y": ("hand", "b"), "a": ("menu", "c", (("1", "y"), ("2", "z")), (1, "y"), (1, "z"))}
        # a, then y by 0, then z by 2
        self.check(samples.house_of(rooms), [0, 1, 2])

    def test_by_the_hour(self):
        self.assertEqual(max(classes(self.trap, 17)), max(classes(self.trap, 18)))
        text = "first a\nmenu a 1 gate 1 a x\nhours gate a\nfrom 8 18 z\nend z day"
        house = read_house(text)
        self.check(house, [0, 0], hour=7)
        self.check(house, [0, 1, 0], hour=8)

    def test_far_ahead(self):
        house = samples.deep_house()
        told = self.check_form(house)
        # One class for each number of keys that are wanting, and the end.
        self.assertEqual(max(told) + 1, 122)

    def test_two_thousand_places(self):
        told = self.check_form(samples.long_house(9))
        self.assertTrue(1700 < len(told) <= 2000)
        self.assertGreater(max(told), 800)

    def test_the_answer_is_the_askers_own(self):
        classes(self.small, 0).clear()
        self.check(self.small, [0, 1, 2, 0, 3, 1])

    def test_houses_that_are_alike_have_as_many(self):
        for house in (self.small, self.trap, self.names):
            other = samples.renamed(house, dict(zip(house["rooms"], samples.numbered_names(12))))
            self.assertEqual(compare(house, other, 0)[0], "alike")
            self.assertEqual(classes(house, 0), classes(other, 0))
        one = samples.house_of({"a": ("menu", "x", (), (1, "z"), (3, "a")), "z": ("end", "x")})
        other = samples.house_of({"a": ("menu", "x", (), (1, "z"), (1, "a")), "z": ("end", "x")})
        self.assertEqual(compare(one, other, 0)[0], "alike")
        self.assertNotEqual(len(places(one, 0)), len(places(other, 0)))
        self.assertEqual(len(set(classes(one, 0))), len(set(classes(other, 0))))


class Parting(Sample):
    def check(self, house, one, other, row, hour=0):
        self.assertEqual(parting(house, hour, one, other), row)
        self.assertEqual(parting(house, hour, other, one), row)
        if row is not None:
            found = places(house, hour)
            near = heard_behind(house, hour, found[one][0], row)
            self.assertNotEqual(near, heard_behind(house, hour, found[other][0], row))

    def test_a_place_with_itself(self):
        for house in (self.small, self.trap, self.names):
            for number in range(len(places(house, 0))):
                self.check(house, number, number, None)

    def test_alike_ones(self):
        self.check(self.small, 0, 3, None)
        self.check(self.small, 1, 5, None)

    def test_at_once(self):
        self.check(self.small, 0, 2, "")
        self.check(self.small, 2, 4, "")
        self.check(self.small, 5, 4, "")

    def test_by_one_sign(self):
        self.check(self.small, 0, 1, "0")
        self.check(self.small, 3, 5, "0")
        self.check(self.small, 0, 5, "0")

    def test_the_first_of_several(self):
        # By 3 to dora or to carl, by 2 to anna where it was typed already.
        self.check(self.names, 0, 2, "2")
        self.check(self.names, 0, 1, "0")
        self.check(self.names, 0, 4, "w")
        self.check(self.names, 2, 6, "0")

    def test_a_shorter_row_of_later_signs_is_the_first(self):
        rooms = {"a": ("menu", "x", (("1", "b"), ("2", "c")), (9, "a"), (9, "a")),
                 "b": ("menu", "y", (("0", "d"), ("5", "z")), (9, "b"), (1, "z")),
                 "c": ("menu", "y", (("0", "e"), ("5", "z")), (9, "c"), (1, "h")),
                 "d": ("menu", "q", (("0", "z"),), (9, "d"), (9, "d")), "e": ("menu", "q", (("0", "h"),), (9, "e"), (9, "e")),
                 "z": ("end", "z"), "h": ("hand", "z")}
        house = samples.house_of(rooms)
        one, other = self.number_of(house, state("b", "a")), self.number_of(house, state("c", "a"))
        self.check(house, one, other, "w")
        one, other = self.number_of(house, state("d", "b")), self.number_of(house, state("e", "c"))
        self.check(house, one, other, "0")

    def test_the_first_of_equally_long_ones_by_its_first_sign(self):
        # Both 1w and 20 part b and c; from 1 on only w does.
        rooms = {"a": ("menu", "x", (("1", "b"), ("2", "c")), (1, "a"), (1, "a")),
                 "b": ("menu", "y", (("1", "d"), ("2", "f")), (1, "b"), (1, "b")),
                 "c": ("menu", "y", (("1", "e"), ("2", "g")), (1, "c"), (1, "c")),
                 "d": ("menu", "q", (), (1, "d"), (1, "z")), "e": ("menu", "q", (), (1, "e"), (1, "h")),
                 "f": ("menu", "q", (("0", "z"),), (1, "f"), (1, "f")), "g": ("menu", "q", (("0", "h"),), (1, "g"), (1, "g")),
                 "z": ("end", "z"), "h": ("hand", "z")}
        house = samples.house_of(rooms)
        one, other = self.number_of(house, state("b", "a")), self.number_of(house, state("c", "a"))
        self.check(house, one, other, "1w")

    def test_by_the_hour(self):
        text = "first a\nmenu a 1 gate 2 a x\nhours gate a\nfrom 8 18 b\nmenu b 1 a 1 a x\nkey 5 z\nend z day"
        house = read_house(text)
        for number in range(len(places(house, 7))):
            self.check(house, 0, number, None, hour=7)
        self.check(house, 0, self.number_of(house, state("b", "a"), 8), "5", hour=8)

    def test_long_rows(self):
        house = samples.deep_house()
        one, other = 0, self.number_of(house, state("b", "a"))
        row = parting(house, 0, one, other)
        self.assertEqual(row, "2" * 110)
        self.check(house, one, other, row)
        self.check(house, 0, self.number_of(house, state("a", typed="2")), "2" * 120)

    def test_two_thousand_places(self):
        house = samples.long_house(9)
        told = classes(house, 0)
        for number in (1, 100, 1000, len(told) - 2, len(told) - 1):
            row = parting(house, 0, 0, number)
            self.assertEqual(row is None, told[number] == 0)
            self.check(house, 0, number, row)


class ManyHouses(unittest.TestCase):
    def test_by_a_second_way(self):
        chance = random.Random(22)
        seen = {"fewer": 0, "long": 0, "none": 0}
        for count in range(90):
            house = samples.some_sound_house(chance)
            hour = chance.randrange(24)
            if len(places(house, hour)) > 30:
                continue
            before = copy.deepcopy(house)
            told = classes(house, hour)
            self.assertEqual(told, second.classes(house, hour), (house, hour))
            seen["fewer"] += 1 < len(set(told)) < len(told)
            rows = second.partings(house, hour)
            for one, other in chance.sample(sorted(rows), min(20, len(rows))):
                row = parting(house, hour, one, other)
                self.assertEqual(row, rows[one, other], (house, hour, one, other))
                seen["long"] += row is not None and len(row) > 1
                seen["none"] += row is None and one != other
            self.assertEqual(house, before)
        self.assertGreater(min(seen.values()), 20, seen)

    def test_houses_that_are_alike_have_as_many(self):
        chance = random.Random(23)
        alike = 0
        for count in range(600):
            one, other = samples.some_sound_house(chance), samples.some_sound_house(chance)
            hour = chance.randrange(24)
            if max(len(places(one, hour)), len(places(other, hour))) < 60 and compare(one, other, hour)[0] == "alike":
                alike += 1
                self.assertEqual(len(set(classes(one, hour))), len(set(classes(other, hour))))
                self.assertLessEqual(len(set(classes(one, hour))), len(places(other, hour)))
        self.assertGreater(alike, 5)
