"""One call: where it begins, what each sign does, and what is heard."""

import copy
import random
import unittest

import samples
import second
from menutree.calls import begin, heard, step, walk
from menutree.faults import faults
from menutree.houses import read_house

SIGNS = "0123456789*#w"

# Codes in `who`: an 26#, amok 2665#, zed *3#, z *#; so the beginnings are 26#, 266, *3, *#.
TEXT = """first gate
letters 2 abc
letters 3 def
letters 5 jkl
letters 6 mno
letters * z
hours gate late
from 6 20 day
hours day door
from 12 13 lunch
hours late bye
from 22 24 door
menu door 3 bye 2 lunch Press a key
key 0 hall
key 1 door
key 2 who
key 7 back
key * gate
key # desk
menu hall 2 door 3 gate The hall
key 0 back
key 9 hall
key # bye
names who 2 door 3 hall Whom?
name amok desk
name an hall
name z who
name zed gate
menu lunch 1 bye 1 lunch We eat
key 5 back
hand desk Anna
end bye Good bye"""


def state(room, back="", wrong=0, waits=0, typed=""):
    return (room, back, wrong, waits, typed)


def some_row(chance, house, many):
    """A row of so many signs, every other one of those that spell words."""
    spelling = "".join(key for key, letters in house["letters"]) + "#"
    return "".join(chance.choice(chance.choice((SIGNS, spelling))) for sign in range(many))


class Calls(unittest.TestCase):
    def setUp(self):
        self.house = read_house(TEXT)

    def tearDown(self):
        self.assertEqual(self.house, read_house(TEXT))
        self.assertEqual(list(self.house["rooms"]), list(read_house(TEXT)["rooms"]))

    def check(self, now, signs, *told, hour=9):
        """By these signs, one behind the other, the state becomes just these."""
        self.assertEqual(len(signs), len(told))
        for sign, right in zip(signs, told):
            now = step(self.house, hour, now, sign)
            self.assertEqual(now, right, (signs, sign))
            self.assertEqual([type(part) for part in now], [str, str, int, int, str])
            self.assertIs(type(now), tuple)


class Begin(Calls):
    def test_the_house_has_no_faults(self):
        self.assertEqual(faults(self.house), [])

    def test_through_rooms_of_hours(self):
        for hour in range(24):
            # Through gate alone to bye in the night, through day by day, through late at 22 and 23.
            room = "lunch" if hour == 12 else "door" if 6 <= hour < 20 or hour >= 22 else "bye"
            self.assertEqual(begin(self.house, hour), state(room), hour)

    def test_at_a_room_of_each_sort(self):
        for first in ("door", "who", "desk", "bye"):
            house = dict(self.house, first=first)
            for hour in (0, 12, 23):
                self.assertEqual(begin(house, hour), state(first))


class Menus(Calls):
    def test_a_key_leads_to_its_target(self):
        self.check(state("door"), "0", state("hall", "door"))
        self.check(state("door"), "2", state("who", "door"))
        self.check(state("door"), "#", state("desk", "door"))
        self.check(state("hall", "who"), "#", state("bye", "hall"))

    def test_through_rooms_of_hours(self):
        self.check(state("hall"), "#", state("bye", "hall"), hour=3)
        self.check(state("door", "hall"), "*", state("door", "door"), hour=9)
        self.check(state("door", "hall"), "*", state("lunch", "door"), hour=12)
        self.check(state("door", "hall"), "*", state("bye", "door"), hour=21)
        self.check(state("door", "hall"), "*", state("door", "door"), hour=22)

    def test_coming_forgets_wrong_keys_and_waits(self):
        self.check(state("door", "", 2, 1), "0", state("hall", "door"))
        self.check(state("hall", "door", 1, 2), "0", state("door", "hall"))

    def test_left_for_itself(self):
        self.check(state("door", "", 2, 1), "1", state("door", "door"))
        self.check(state("hall", "who", 1, 2), "9", state("hall", "hall"))

    def test_back(self):
        self.check(state("hall", "door"), "000", state("door", "hall"), state("hall", "door"), state("door", "hall"))
        self.check(state("hall", "who", 1, 1), "0", state("who", "hall"))
        self.check(state("door", "hall", 1, 1), "7", state("hall", "door"))

    def test_back_to_itself(self):
        self.check(state("door", "door", 2, 1), "77", state("door", "door"), state("door", "door"))

    def test_back_to_nowhere_is_a_wrong_key(self):
        self.check(state("door"), "777", state("door", "", 1), state("door", "", 2), state("bye", "door"))
        self.check(state("door", "", 1, 1), "7", state("door", "", 2, 1))

    def test_the_back_stays_by_wrong_keys_and_waits(self):
        self.check(state("hall", "door"), "w10", state("hall", "door", 0, 1), state("hall", "door", 1, 1), state("door", "hall"))

    def test_wrong_keys_up_to_their_bound(self):
        self.check(state("door"), "345", state("door", "", 1), state("door", "", 2), state("bye", "door"))
        self.check(state("hall", "door"), "18", state("hall", "door", 1), state("door", "hall"))
        self.check(state("lunch", "door"), "0", state("bye", "lunch"))

    def test_each_key_that_a_menu_has_not(self):
        for key in "345689":
            self.check(state("door", "hall", 0, 1), key, state("door", "hall", 1, 1))
        for key in "12345678*":
            self.check(state("hall", "door", 0, 2), key, state("hall", "door", 1, 2))

    def test_waits_up_to_their_bound(self):
        self.check(state("door"), "ww", state("door", "", 0, 1), state("lunch", "door"))
        told = [state("hall", "who", 1, 1), state("hall", "who", 1, 2), state("door", "hall")]
        self.check(state("hall", "who", 1), "www", *told)

    def test_a_bound_leads_through_rooms_of_hours(self):
        self.check(state("hall", "who", 1, 2), "w", state("lunch", "hall"), hour=12)
        self.check(state("hall", "who", 1, 2), "w", state("bye", "hall"), hour=0)

    def test_a_bound_may_lead_to_the_room_itself(self):
        self.check(state("lunch", "door"), "ww", state("lunch", "lunch"), state("lunch", "lunch"))

    def test_wrong_keys_and_waits_are_told_apart(self):
        told = [state("door", "", 0, 1), state("door", "", 1, 1), state("door", "", 2, 1), state("bye", "door")]
        self.check(state("door"), "w888", *told)
        told = [state("door", "", 1), state("door", "", 2), state("door", "", 2, 1), state("lunch", "door")]
        self.check(state("door"), "88ww", *told)

    def test_the_greatest_bounds(self):
        house = samples.house_of({"a": ("menu", "x", (), (9, "b"), (9, "c")), "b": ("hand", "x"), "c": ("end", "x")})
        told = walk(house, 0, "1" * 8 + "w" * 8)
        self.assertEqual(told, [state("a", "", many) for many in range(9)] + [state("a", "", 8, many) for many in range(1, 9)])
        self.assertEqual(step(house, 0, told[-1], "#"), state("b", "a"))
        self.assertEqual(step(house, 0, told[-1], "w"), state("c", "a"))

    def test_the_least_bounds(self):
        house = samples.house_of({"a": ("menu", "x", (), (1, "b"), (1, "c")), "b": ("hand", "x"), "c": ("end", "x")})
        self.assertEqual(walk(house, 0, "1"), [state("a"), state("b", "a")])
        self.assertEqual(walk(house, 0, "w"), [state("a"), state("c", "a")])


class Names(Calls):
    def test_typed_keys_and_a_beginning_that_is_reached(self):
        told = [state("who", "door", 0, 0, "2"), state("who", "door", 0, 0, "26")]
        self.check(state("who", "door"), "266", *told, state("desk", "who"))
        self.check(state("who", "door"), "26#", *told, state("hall", "who"))

    def test_a_beginning_leads_to_the_room_itself(self):
        told = [state("who", "door", 1, 2, "*"), state("who", "who")]
        self.check(state("who", "door", 1, 2), "*#", *told)

    def test_a_beginning_leads_through_rooms_of_hours(self):
        for hour, room in ((9, "door"), (12, "lunch"), (21, "bye"), (22, "door")):
            self.check(state("who", "hall", 0, 0, "*"), "3", state(room, "who"), hour=hour)

    def test_typing_leaves_all_else_as_it_was(self):
        self.check(state("who", "hall", 1, 2), "2", state("who", "hall", 1, 2, "2"))

    def test_wrong_keys(self):
        for key in "013456789#":
            self.check(state("who", "hall", 0, 2), key, state("who", "hall", 1, 2))
        self.check(state("who", "hall"), "11", state("who", "hall", 1), state("door", "who"))

    def test_a_wrong_key_behind_typed_keys(self):
        for key in "0123456789*":
            if key != "6":
                self.check(state("who", "hall", 0, 1, "2"), key, state("who", "hall", 1, 1))
        self.check(state("who", "hall", 0, 1, "2"), "#", state("who", "hall", 1, 1))
        self.check(state("who", "hall", 1, 1, "26"), "5", state("door", "who"))

    def test_a_wrong_key_is_not_the_first_one_typed_then(self):
        told = [state("who", "hall", 0, 0, "2"), state("who", "hall", 1), state("who", "hall", 1, 0, "*"), state("who", "who")]
        self.check(state("who", "hall"), "2**#", *told)

    def test_a_wait_behind_typed_keys(self):
        told = [state("who", "hall", 0, 0, "2"), state("who", "hall", 0, 0, "26"), state("who", "hall", 0, 1)]
        self.check(state("who", "hall"), "26w6", *told, state("who", "hall", 1, 1))

    def test_waits_up_to_their_bound(self):
        told = [state("who", "door", 0, 1), state("who", "door", 0, 2), state("hall", "who")]
        self.check(state("who", "door"), "www", *told)
        self.check(state("who", "door", 1, 2, "26"), "w", state("hall", "who"))

    def test_waits_between_typed_keys_are_counted(self):
        told = [state("who", "", 0, 1), state("who", "", 0, 1, "2"), state("who", "", 0, 2), state("who", "", 0, 2, "*")]
        self.check(state("who"), "w2w*w", *told, state("hall", "who"))

    def test_nothing_leads_back(self):
        letters, words = [("2", "abck")], (("back", "b"),)
        rooms = {"a": ("menu", "x", (("1", "n"),), (1, "a"), (1, "a")),
                 "n": ("names", "x", words, (1, "a"), (1, "a")), "b": ("end", "x")}
        told = walk(samples.house_of(rooms, letters), 0, "12")
        self.assertEqual(told, [state("a"), state("n", "a"), state("b", "n")])

    def test_one_word_alone(self):
        rooms = {"a": ("names", "x", (("zed", "b"),), (2, "b"), (2, "b")), "b": ("end", "x")}
        house = samples.house_of(rooms, [("0", "ed"), ("*", "z")])
        self.assertEqual(walk(house, 0, "*"), [state("a"), state("b", "a")])
        self.assertEqual(walk(house, 0, "0"), [state("a"), state("a", "", 1)])

    def test_each_room_of_names_has_its_own_words(self):
        rooms = {
            "a": ("names", "x", (("a", "b"), ("aa", "b")), (9, "a"), (9, "a")),
            "b": ("names", "x", (("a", "c"), ("c", "a")), (9, "a"), (9, "a")),
            "c": ("end", "x"),
        }
        house = samples.house_of(rooms, [("2", "a"), ("3", "c")])
        told = [state("a"), state("a", "", 0, 0, "2"), state("b", "a"), state("a", "b"), state("a", "b", 0, 0, "2")]
        self.assertEqual(walk(house, 0, "2#32"), told)
        self.assertEqual(walk(house, 0, "222")[-1], state("c", "b"))


class Last(Calls):
    def test_hands_and_ends_stay_by_every_sign(self):
        for room in ("desk", "bye"):
            for back in ("", "door", "who"):
                for sign in SIGNS:
                    for hour in (0, 12, 23):
                        self.check(state(room, back), sign, state(room, back), hour=hour)

    def test_from_the_begin(self):
        self.assertEqual(walk(self.house, 0, SIGNS), [state("bye")] * 14)


class Walk(Calls):
    def test_without_signs(self):
        for hour in range(24):
            self.assertEqual(walk(self.house, hour, ""), [begin(self.house, hour)])

    def test_a_row(self):
        told = [state("door"), state("hall", "door"), state("hall", "hall"), state("hall", "hall", 0, 1), state("hall", "hall"),
                state("bye", "hall"), state("bye", "hall")]
        self.assertEqual(walk(self.house, 9, "09w0#1"), told)

    def test_a_row_with_names(self):
        told = [state("door"), state("who", "door"), state("who", "door", 0, 0, "*"), state("lunch", "who"),
                state("who", "lunch"), state("who", "lunch", 0, 0, "2"), state("who", "lunch", 0, 0, "26"), state("desk", "who")]
        house = dict(self.house, first="door")
        self.assertEqual(walk(house, 12, "2*35266"), told)

    def test_long_rows(self):
        told = walk(self.house, 9, "0" * 200)
        self.assertEqual(told, [state("door")] + [state("hall", "door"), state("door", "hall")] * 100)
        told = walk(self.house, 9, "2" + "1w" * 99 + "1")
        self.assertEqual(len(told), 201)
        for many in (199, 200, 500):
            self.assertEqual(len(walk(self.house, 9, "w" * many)), many + 1)

    def test_each_step_is_a_step(self):
        row = "2262*306w1#70290*"
        told = walk(self.house, 9, row)
        for place, sign in enumerate(row):
            self.assertEqual(step(self.house, 9, told[place], sign), told[place + 1])

    def test_the_answer_is_the_askers_own(self):
        kept = walk(self.house, 9, "0")
        other = walk(self.house, 9, "0")
        other.clear()
        self.assertEqual(kept, [state("door"), state("hall", "door")])
        self.assertEqual(walk(self.house, 9, "0"), kept)
        self.assertIs(type(kept), list)

    def test_what_was_asked_before_is_not_kept(self):
        other = copy.deepcopy(self.house)
        self.assertEqual(walk(other, 9, "226#")[-1], state("hall", "who"))
        other["letters"] = [("2", "anmok"), ("*", "zed")]
        self.assertEqual(walk(other, 9, "222#")[-1], state("hall", "who"))
        other["rooms"]["who"] = ("names", "x", (("z", "bye"),), (1, "door"), (1, "door"))
        self.assertEqual(walk(other, 9, "2*")[-1], state("bye", "who"))
        self.assertEqual(walk(self.house, 9, "226#")[-1], state("hall", "who"))


class Heard(Calls):
    def check_heard(self, house, now, told):
        answer = heard(house, now)
        self.assertEqual(answer, told)
        self.assertIs(type(answer), tuple)

    def test_in_each_sort_of_room(self):
        self.check_heard(self.house, state("door"), ("asked", "Press a key"))
        self.check_heard(self.house, state("hall", "door", 1, 2), ("asked", "The hall"))
        self.check_heard(self.house, state("who", "door"), ("asked", "Whom?"))
        self.check_heard(self.house, state("desk", "who"), ("hand", "Anna"))
        self.check_heard(self.house, state("bye", ""), ("end", "Good bye"))

    def test_it_hangs_on_the_room_alone(self):
        for now in (state("who"), state("who", "who"), state("who", "door", 1, 2, "26")):
            self.check_heard(self.house, now, ("asked", "Whom?"))

    def test_the_text_as_it_stands(self):
        for text in (" ", " a  b ", "x" * 80, "~"):
            self.check_heard(samples.house_of({"a": ("hand", text)}), state("a"), ("hand", text))


class ManyCalls(unittest.TestCase):
    def test_many_houses_by_a_second_way(self):
        chance = random.Random(15)
        houses = 0
        seen = {"typed": 0, "back": 0, "wrong": 0, "waits": 0, "itself": 0}
        while houses < 400:
            house = samples.some_call_house(chance)
            if second.faults(house):
                continue
            houses += 1
            before = copy.deepcopy(house)
            for count in range(4):
                hour = chance.randrange(24)
                row = some_row(chance, house, chance.choice((0, 1, 12, 40)))
                told = walk(house, hour, row)
                self.assertEqual(told, second.walk(house, hour, row), (house, hour, row))
                seen["typed"] += any(now[4] for now in told)
                seen["back"] += any(now[1] for now in told)
                seen["wrong"] += any(now[2] for now in told)
                seen["waits"] += any(now[3] for now in told)
                seen["itself"] += any(now[0] == now[1] for now in told)
            self.assertEqual(house, before)
        self.assertGreater(min(seen.values()), 100, seen)

    def test_every_sign_in_every_state_that_is_come_to(self):
        chance = random.Random(16)
        houses = 0
        while houses < 60:
            house = samples.some_call_house(chance)
            if second.faults(house):
                continue
            houses += 1
            hour = chance.randrange(24)
            rows = {begin(house, hour): ""}
            waiting = list(rows)
            while waiting and len(rows) < 40:
                now = waiting.pop(0)
                for sign in SIGNS:
                    come = step(house, hour, now, sign)
                    self.assertEqual(come, second.walk(house, hour, rows[now] + sign)[-1], (house, hour, rows[now], sign))
                    if come not in rows:
                        rows[come] = rows[now] + sign
                        waiting.append(come)
