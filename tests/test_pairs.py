"""Two houses: alike or apart at an hour, and the pairs of states that show it."""

import copy
import itertools
import random
import unittest

import samples
import second
from menutree.calls import heard, step, walk
from menutree.faults import faults
from menutree.houses import read_house
from menutree.pairs import compare
from menutree.reach import earlier, places

SIGNS = "0123456789*#w"


def state(room, back="", wrong=0, waits=0, typed=""):
    return (room, back, wrong, waits, typed)


class Pairs(samples.SampleCase):
    def other(self, text, old, new):
        """The house of a text in which something is changed."""
        self.assertIn(old, text)
        house = read_house(text.replace(old, new))
        self.assertEqual(faults(house), [])
        return house

    def check_pairs(self, one, other, hour, pairs):
        """What holds of the pairs of every two houses: led to by their rows, heard alike, each once, rising."""
        self.assertIs(type(pairs), list)
        for pair in pairs:
            self.assertIs(type(pair), tuple)
            self.assertEqual(walk(one, hour, pair[2])[-1], pair[0])
            self.assertEqual(walk(other, hour, pair[2])[-1], pair[1])
            self.assertEqual(heard(one, pair[0]), heard(other, pair[1]))
        self.assertEqual(len({pair[:2] for pair in pairs}), len(pairs))
        for near, far in zip(pairs, pairs[1:]):
            self.assertTrue(earlier(near[2], far[2]))

    def check_alike(self, one, other, hour=0):
        told = compare(one, other, hour)
        self.assertIs(type(told), tuple)
        self.assertEqual(len(told), 2)
        self.assertEqual(told[0], "alike")
        self.check_pairs(one, other, hour, told[1])
        self.assertEqual(told[1][0], (walk(one, hour, "")[0], walk(other, hour, "")[0], ""))
        found = [pair[:2] for pair in told[1]]
        for near, far in found:
            for sign in SIGNS:
                self.assertIn((step(one, hour, near, sign), step(other, hour, far, sign)), found)
        back = compare(other, one, hour)
        self.assertEqual(back, ("alike", [(far, near, row) for near, far, row in told[1]]))
        return told[1]

    def check_apart(self, one, other, row, hour=0):
        told = compare(one, other, hour)
        self.assertIs(type(told), tuple)
        self.assertEqual(told[:2], ("apart", row))
        self.assertEqual(len(told), 3)
        self.check_pairs(one, other, hour, told[2])
        for pair in told[2]:
            self.assertTrue(earlier(pair[2], row))
        self.assertNotEqual(heard(one, walk(one, hour, row)[-1]), heard(other, walk(other, hour, row)[-1]))
        back = compare(other, one, hour)
        self.assertEqual(back, ("apart", row, [(far, near, led) for near, far, led in told[2]]))
        return told[2]


class Alike(Pairs):
    def test_a_house_with_itself(self):
        for house in (self.small, self.names):
            for hour in (0, 23):
                pairs = self.check_alike(house, house, hour)
                self.assertEqual(pairs, [(now, now, row) for now, row in places(house, hour)])

    def test_with_a_copy(self):
        pairs = self.check_alike(self.small, copy.deepcopy(self.small))
        self.assertEqual(len(pairs), 6)

    def test_rooms_with_other_names_in_another_order(self):
        house = samples.renamed(self.small, {"a": "hall", "b": "a", "z": "bye"})
        house["rooms"] = dict(reversed(list(house["rooms"].items())))
        pairs = self.check_alike(self.small, house)
        self.assertEqual(pairs, [
            (state("a"), state("hall"), ""), (state("a", "", 1), state("hall", "", 1), "0"), (state("b", "a"), state("a", "hall"), "1"),
            (state("a", "a"), state("hall", "hall"), "w"), (state("z", "a"), state("bye", "hall"), "00"),
            (state("a", "a", 1), state("hall", "hall", 1), "w0")])

    def test_another_many_of_waits_that_is_not_heard(self):
        # By a wait one comes to the room anew in the one house, and in the other only by the second wait.
        house = self.other(samples.SMALL_TEXT, "menu a 2 z 1 a", "menu a 1 z 2 a")
        told = self.check_alike(house, self.other(samples.SMALL_TEXT, "menu a 2 z 1 a", "menu a 1 z 1 a"))
        self.assertEqual(told, [
            (state("a"), state("a"), ""), (state("z", "a"), state("z", "a"), "0"), (state("b", "a"), state("b", "a"), "1"),
            (state("a", "", 0, 1), state("a", "a"), "w"), (state("a", "a"), state("a", "a"), "ww"),
            (state("a", "a", 0, 1), state("a", "a"), "www")])

    def test_a_state_that_stands_beside_several(self):
        one = samples.house_of({"a": ("menu", "x", (), (1, "a"), (1, "b")), "b": ("menu", "x", (), (1, "a"), (1, "a"))})
        other = samples.house_of({"a": ("menu", "x", (), (9, "a"), (9, "a"))})
        self.assertEqual(len({pair[0] for pair in self.check_alike(one, other)}), len(places(one, 0)))
        self.assertGreater(len(compare(one, other, 0)[1]), len(places(other, 0)))

    def test_hands_and_ends_first(self):
        for kind in ("hand", "end"):
            one, other = samples.house_of({"a": (kind, "x")}), samples.house_of({"b": (kind, "x")}, first="b")
            self.assertEqual(self.check_alike(one, other), [(state("a"), state("b"), "")])

    def test_a_menu_like_a_room_of_names(self):
        one = samples.house_of({"a": ("menu", "x", (("2", "z"),), (3, "a"), (1, "a")), "z": ("end", "y")})
        other = samples.house_of({"a": ("names", "x", (("b", "z"),), (3, "a"), (1, "a")), "z": ("end", "y")}, [("2", "b")])
        self.check_alike(one, other)

    def test_two_ends_of_one_text(self):
        one = samples.house_of({"a": ("menu", "x", (("1", "y"),), (1, "z"), (1, "z")), "y": ("end", "e"), "z": ("end", "e")})
        other = samples.house_of({"a": ("menu", "x", (), (1, "z"), (1, "z")), "z": ("end", "e")})
        self.check_alike(one, other)

    def test_letters_that_spell_nothing(self):
        self.check_alike(self.names, self.other(samples.NAMES_TEXT, "letters 2 ab", "letters 2 abxyz"))

    def test_rooms_that_nobody_comes_to(self):
        house = copy.deepcopy(self.small)
        house["rooms"]["more"] = ("hand", "Nobody")
        self.check_alike(self.small, house)

    def test_two_thousand_pairs(self):
        house = samples.long_house(9)
        pairs = self.check_alike(house, samples.renamed(house, {"a": "aa", "e": "first"}))
        self.assertGreater(len(pairs), 1700)


class Apart(Pairs):
    def test_at_once(self):
        self.assertEqual(self.check_apart(self.small, self.names, ""), [])
        self.assertEqual(self.check_apart(self.small, self.other(samples.SMALL_TEXT, "Hello", "Hallo"), ""), [])
        one, other = samples.house_of({"a": ("hand", "x")}), samples.house_of({"a": ("end", "x")})
        self.assertEqual(self.check_apart(one, other, ""), [])
        asked = samples.house_of({"a": ("menu", "x", (), (1, "a"), (1, "a"))})
        self.assertEqual(self.check_apart(one, asked, ""), [])

    def test_another_text(self):
        pairs = self.check_apart(self.small, self.other(samples.SMALL_TEXT, "Anna", "Otto"), "1")
        self.assertEqual(pairs, [(state("a"), state("a"), ""), (state("a", "", 1), state("a", "", 1), "0")])
        pairs = self.check_apart(self.small, self.other(samples.SMALL_TEXT, "Good bye", "Bye"), "00")
        self.assertEqual([row for one, other, row in pairs], ["", "0", "1", "w"])

    def test_a_blank_more(self):
        self.check_apart(self.small, self.other(samples.SMALL_TEXT, "Good bye", "Good bye "), "00")

    def test_a_hand_that_is_an_end(self):
        self.check_apart(self.small, self.other(samples.SMALL_TEXT, "hand b", "end b"), "1")

    def test_another_key(self):
        self.check_apart(self.small, self.other(samples.SMALL_TEXT, "key 1", "key 5"), "1")
        self.check_apart(self.small, self.other(samples.SMALL_TEXT, "key 1 b", "key 1 b\nkey # b"), "#")
        self.check_apart(self.small, self.other(samples.SMALL_TEXT, "key 1 b", "key 1 b\nkey 3 a"), "03")

    def test_other_bounds(self):
        self.check_apart(self.small, self.other(samples.SMALL_TEXT, "menu a 2", "menu a 1"), "0")
        self.check_apart(self.small, self.other(samples.SMALL_TEXT, "menu a 2", "menu a 9"), "00")
        # The second wait forgets the wrong key in the one house alone.
        self.check_apart(self.small, self.other(samples.SMALL_TEXT, "z 1 a", "z 2 a"), "0w0")
        self.check_apart(self.small, self.other(samples.SMALL_TEXT, "z 1 a", "z 1 z"), "w")

    def test_the_greatest_bounds(self):
        one = samples.house_of({"a": ("menu", "x", (), (9, "z"), (9, "a")), "z": ("end", "x")})
        other = samples.house_of({"a": ("menu", "x", (), (8, "z"), (9, "a")), "z": ("end", "x")})
        # Up to seven signs in all, so many of them waits: one state each.
        self.assertEqual(len(self.check_apart(one, other, "0" * 8)), sum(range(1, 9)))

    def test_other_letters(self):
        self.check_apart(self.names, self.other(samples.NAMES_TEXT, "letters 3 cd", "letters 4 cd"), "3")
        self.check_apart(self.names, self.other(samples.NAMES_TEXT, "letters 2 ab\nletters 3 cd", "letters 2 ac\nletters 3 bd"), "22")

    def test_another_word(self):
        self.check_apart(self.names, self.other(samples.NAMES_TEXT, "name d dora", "name d dora\nname da carl"), "3")

    def test_back(self):
        text = "first a\nmenu a 1 z 1 z x\nkey 1 b\nmenu b 1 z 1 z x\nkey 1 back\nkey 2 b\nend z x"
        # Left for itself, b has itself as back, where the other house leads to a all the same.
        self.check_apart(read_house(text), self.other(text, "key 1 back", "key 1 a"), "1212")

    def test_by_the_hour(self):
        text = "first a\nmenu a 1 gate 1 a x\nhours gate y\nfrom 8 18 z\nend y night\nend z day"
        one, other = read_house(text), self.other(text, "from 8 18", "from 9 18")
        for hour in range(24):
            if hour == 8:
                self.check_apart(one, other, "0", hour)
            else:
                self.check_alike(one, other, hour)

    def test_a_pair_whose_first_row_is_later_is_not_told(self):
        # Both `1` and `2` lead to rooms heard alike, `11` is the first that parts.
        text = "first a\nmenu a 1 a 1 a x\nkey 1 b\nkey 2 c\nmenu b 1 b 1 b x\nkey 1 z\nmenu c 1 c 1 c x\nend z x"
        pairs = self.check_apart(read_house(text), self.other(text, "end z x", "end z y"), "11")
        self.assertEqual([row for one, other, row in pairs], ["", "0", "1", "2", "10"])

    def test_long_rows(self):
        one, other = samples.deep_house(), samples.deep_house()
        other["rooms"]["z"] = ("end", "y")
        pairs = self.check_apart(one, other, "2" * 121)
        self.assertGreater(len(pairs), 100)


class Own(Pairs):
    def test_the_lists_are_the_askers_own(self):
        kept = compare(self.small, self.small, 0)
        compare(self.small, self.small, 0)[1].clear()
        self.assertEqual(compare(self.small, self.small, 0), kept)
        other = self.other(samples.SMALL_TEXT, "Anna", "Otto")
        kept = compare(self.small, other, 0)
        compare(self.small, other, 0)[2].clear()
        self.assertEqual(compare(self.small, other, 0), kept)
        self.assertEqual(len(kept[2]), 2)


def changed(chance, house):
    """A house with something changed in one of its rooms, or its letters, or nothing but names."""
    other = copy.deepcopy(house)
    name = chance.choice(list(house["rooms"]))
    room = house["rooms"][name]
    what = chance.choice(("names", "text", "keys", "bound", "letters", "target"))
    if what == "names":
        return samples.renamed(house, dict(zip(house["rooms"], samples.numbered_names(12))))
    if what == "letters" and house["letters"]:
        keys = chance.sample("0123456789*", len(house["letters"]))
        moved = [(key, letters) for key, (before, letters) in zip(keys, house["letters"])]
        other["letters"] = sorted(moved, key=lambda pair: SIGNS.index(pair[0]))
    elif room[0] in ("hand", "end"):
        other["rooms"][name] = (room[0], chance.choice("xyz"))
    elif room[0] != "hours":
        bounds = [(chance.randint(1, 3) if what == "bound" else bound[0], bound[1]) for bound in room[3:]]
        held = [(told, chance.choice(list(house["rooms"])) if what == "target" else target) for told, target in room[2]]
        if what == "keys" and room[0] == "menu":
            held = held[1:]
        other["rooms"][name] = (room[0], room[1], tuple(held), bounds[0], bounds[1])
    return other


class ManyHouses(unittest.TestCase):
    def test_by_a_second_way(self):
        chance = random.Random(20)
        seen = {"alike": 0, "apart": 0, "more": 0, "long": 0}
        for count in range(400):
            one = samples.some_sound_house(chance)
            other = changed(chance, one) if chance.randrange(5) else samples.some_sound_house(chance)
            hour = chance.randrange(24)
            if max(len(places(one, hour)), len(places(other, hour))) > 40:
                continue
            before = copy.deepcopy((one, other))
            told = compare(one, other, hour)
            self.assertEqual(told, second.compare(one, other, hour), (one, other, hour))
            self.assertEqual(before, (one, other))
            seen[told[0]] += 1
            seen["more"] += told[0] == "alike" and len(told[1]) > len(places(one, hour))
            seen["long"] += told[0] == "apart" and len(told[1]) > 1
        self.assertGreater(min(seen.values()), 5, seen)

    def test_all_short_rows(self):
        chance = random.Random(21)
        seen = {"alike": 0, "apart": 0}
        for count in range(30):
            one = samples.some_sound_house(chance)
            other = changed(chance, one)
            hour = chance.randrange(24)
            told = compare(one, other, hour)
            rows = itertools.chain(*(itertools.product(SIGNS, repeat=size) for size in range(3)))
            apart = None
            for row in rows:
                if heard(one, walk(one, hour, row)[-1]) != heard(other, walk(other, hour, row)[-1]):
                    apart = "".join(row)
                    break
            if apart is None:
                self.assertTrue(told[0] == "alike" or len(told[1]) > 2)
            else:
                self.assertEqual(told[:2], ("apart", apart))
            seen[told[0]] += 1
        self.assertGreater(min(seen.values()), 5, seen)
