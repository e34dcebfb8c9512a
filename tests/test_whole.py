"""The whole: the interface as it stands, nothing handed in is changed, and what the parts tell fits together."""

import copy
import importlib
import inspect
import random
import unittest

import samples
import second
from menutree.calls import begin, heard, step, walk
from menutree.classes import classes, parting
from menutree.desk import Desk
from menutree.faults import faults
from menutree.houses import read_house, show_house
from menutree.hours import come_to
from menutree.pairs import compare
from menutree.reach import earlier, ends, outs, places, traps
from menutree.words import beginnings

SIGNS = "0123456789*#w"

INTERFACE = {
    "houses": {"read_house": ["text"], "show_house": ["H"]},
    "words": {"code_of": ["letters", "word"], "beginnings": ["letters", "words"]},
    "hours": {"handed": ["room", "hour"], "come_to": ["H", "hour", "name"]},
    "faults": {"faults": ["H"]},
    "calls": {"begin": ["H", "hour"], "step": ["H", "hour", "state", "sign"], "walk": ["H", "hour", "row"], "heard": ["H", "state"]},
    "reach": {"earlier": ["one", "other"], "places": ["H", "hour"], "outs": ["H", "hour"], "traps": ["H", "hour"], "ends": ["H", "hour"]},
    "pairs": {"compare": ["H", "G", "hour"]},
    "classes": {"classes": ["H", "hour"], "parting": ["H", "hour", "one", "other"]},
    "desk": {"Desk": []},
}


def some_row(chance, many):
    return "".join(chance.choice(SIGNS) for count in range(many))


def some_houses(seed, many):
    """So many pairs of a house without faults and an hour, its places not too many."""
    chance = random.Random(seed)
    told = []
    while len(told) < many:
        house, hour = samples.some_sound_house(chance), chance.randrange(24)
        if len(places(house, hour)) < 100:
            told.append((house, hour))
    return told


class Interface(unittest.TestCase):
    def test_names_and_arguments(self):
        for module, names in INTERFACE.items():
            found = importlib.import_module("menutree." + module)
            for name, arguments in names.items():
                self.assertEqual(list(inspect.signature(getattr(found, name)).parameters), arguments, name)
        self.assertEqual(list(inspect.signature(Desk().say).parameters), ["row"])


class Unchanged(unittest.TestCase):
    def test_nothing_handed_in_is_changed(self):
        for house, hour in some_houses(2, 20):
            other = samples.renamed(house, {"a": "hall"})
            before = copy.deepcopy((house, other))
            order = [list(one["rooms"]) for one in (house, other)]
            show_house(house)
            faults(house)
            walk(house, hour, "12w")
            places(house, hour)
            outs(house, hour)
            traps(house, hour)
            ends(house, hour)
            compare(house, other, hour)
            classes(house, hour)
            parting(house, hour, 0, len(places(house, hour)) - 1)
            self.assertEqual((house, other), before)
            self.assertEqual([list(one["rooms"]) for one in (house, other)], order)

    def test_what_is_told_is_the_askers_own(self):
        for house, hour in some_houses(3, 20):
            asked = (lambda: places(house, hour), lambda: outs(house, hour), lambda: traps(house, hour), lambda: ends(house, hour),
                     lambda: classes(house, hour), lambda: compare(house, house, hour)[1], lambda: faults(house), lambda: walk(house, hour, "1"))
            for ask in asked:
                kept = ask()
                told = ask()
                self.assertIsNot(kept, told)
                told.append("more")
                told.reverse()
                self.assertEqual(ask(), kept)


class Whole(unittest.TestCase):
    def test_a_house_that_is_written_is_read_back(self):
        for house, hour in some_houses(4, 40):
            self.assertEqual(read_house(show_house(house)), house)
            self.assertEqual(faults(house), [])

    def test_each_row_leads_to_just_one_place(self):
        chance = random.Random(5)
        for house, hour in some_houses(5, 40):
            rows = dict(places(house, hour))
            for count in range(20):
                row = some_row(chance, chance.choice((0, 1, 2, 3, 10, 40)))
                come = walk(house, hour, row)[-1]
                self.assertIn(come, rows)
                self.assertFalse(earlier(row, rows[come]))
                self.assertEqual(walk(house, hour, rows[come])[-1], come)

    def test_as_many_signs_as_the_outs_tell_lead_out(self):
        for house, hour in some_houses(6, 40):
            count_of = dict(zip([state for state, row in places(house, hour)], outs(house, hour)))
            trapped = [state for state, row in traps(house, hour)]
            for state, many in count_of.items():
                self.assertEqual(many is None, state in trapped)
                for left in reversed(range(many or 0)):
                    near = [step(house, hour, state, sign) for sign in SIGNS]
                    self.assertGreaterEqual(min(count_of[one] for one in near if count_of[one] is not None), left)
                    state = [one for one in near if count_of[one] == left][0]
                self.assertEqual(many is not None, heard(house, state)[0] != "asked")

    def test_ends_are_come_to_by_their_rows(self):
        for house, hour in some_houses(7, 40):
            for name, row in ends(house, hour):
                self.assertEqual(walk(house, hour, row)[-1][0], name)
                self.assertNotEqual(heard(house, walk(house, hour, row)[-1])[0], "asked")

    def test_beginnings_lead_to_the_rooms_of_their_words(self):
        seen = 0
        for house, hour in some_houses(8, 80):
            for name, room in house["rooms"].items():
                if room[0] == "names":
                    other = dict(house, first=name)
                    for word, beginning in beginnings(house["letters"], [word for word, target in room[2]]):
                        come = walk(other, hour, beginning)
                        self.assertEqual([now[4] for now in come[:-1]], [beginning[:size] for size in range(len(beginning))])
                        self.assertEqual(come[-1], (come_to(house, hour, dict(room[2])[word]), name, 0, 0, ""))
                        seen += 1
        self.assertGreater(seen, 50)

    def test_alike_is_heard_alike_by_any_row(self):
        chance = random.Random(9)
        seen = {"alike": 0, "apart": 0}
        for house, hour in some_houses(9, 120):
            other = copy.deepcopy(house)
            name = chance.choice(list(house["rooms"]))
            if house["rooms"][name][0] != "hours":
                other["rooms"][name] = (other["rooms"][name][0], "new") + other["rooms"][name][2:]
            told = compare(house, other, hour)
            seen[told[0]] += 1
            if told[0] == "apart":
                self.assertNotEqual(heard(house, walk(house, hour, told[1])[-1]), heard(other, walk(other, hour, told[1])[-1]))
            for count in range(10):
                row = some_row(chance, chance.choice((0, 1, 2, 5, 30)))
                if told[0] == "alike" or earlier(row, told[1]):
                    self.assertEqual(heard(house, walk(house, hour, row)[-1]), heard(other, walk(other, hour, row)[-1]))
        self.assertGreater(min(seen.values()), 20, seen)

    def test_a_parting_is_heard_at_its_end_and_not_ahead_of_it(self):
        for house, hour in some_houses(10, 40):
            found = places(house, hour)
            told = classes(house, hour)
            for number in range(0, len(found), 5):
                row = parting(house, hour, 0, number)
                self.assertEqual(row is None, told[number] == told[0])
                if row is not None:
                    near, far = begin(house, hour), found[number][0]
                    for sign in row:
                        self.assertEqual(second.heard(house, near), second.heard(house, far))
                        near, far = second.after(house, hour, near, sign), second.after(house, hour, far, sign)
                    self.assertNotEqual(second.heard(house, near), second.heard(house, far))

    def test_the_desk_tells_the_same(self):
        for house, hour in some_houses(11, 30):
            desk = Desk()
            self.assertEqual(desk.say("house a\n" + show_house(house)), "ok")
            self.assertEqual(desk.say("show a"), show_house(house))
            self.assertEqual(desk.say(f"least a {hour}"), str(max(classes(house, hour)) + 1))
            self.assertEqual(desk.say(f"traps a {hour}"), " ".join(row or "-" for state, row in traps(house, hour)) or "none")
            for name, row in ends(house, hour):
                self.assertEqual(desk.say(f"row a {hour} {name}"), row or "-")
            for number, (state, row) in enumerate(places(house, hour)[:20], 1):
                desk.say(f"call a {hour}")
                self.assertEqual(desk.say(f"press {number} {row}"), " ".join(heard(house, state)))
