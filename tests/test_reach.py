"""What can be reached: which of two rows is the earlier, places, outs, traps and ends."""

import copy
import itertools
import random
import unittest

import samples
import second
from menutree.calls import begin, step, walk
from menutree.faults import faults
from menutree.houses import read_house
from menutree.reach import earlier, ends, outs, places, traps

SIGNS = "0123456789*#w"


def state(room, back="", wrong=0, waits=0, typed=""):
    return (room, back, wrong, waits, typed)


class Earlier(unittest.TestCase):
    def check(self, one, other):
        """The one is earlier, so the other is not."""
        self.assertIs(earlier(one, other), True, (one, other))
        self.assertIs(earlier(other, one), False, (one, other))

    def test_the_shorter_one(self):
        self.check("w", "00")
        self.check("#w", "000")
        self.check("5", "50")
        self.check("ww", "0" * 200)
        self.check("w" * 199, "0" * 200)

    def test_the_row_without_signs(self):
        for row in ("0", "w", "00", "w" * 200):
            self.check("", row)

    def test_neither_of_two_alike(self):
        for row in ("", "0", "w", "12*#w", "0" * 200, "w" * 200):
            self.assertIs(earlier(row, row), False)
            self.assertIs(earlier(row, "".join(list(row))), False)

    def test_each_sign_and_its_neighbour(self):
        for one, other in zip(SIGNS, SIGNS[1:]):
            self.check(one, other)
            self.check("5" + one, "5" + other)
            self.check(one + "5", other + "5")

    def test_each_two_signs(self):
        for one, other in itertools.combinations(SIGNS, 2):
            self.check(one, other)

    def test_signs_that_stand_otherwise_in_ascii(self):
        self.check("9", "*")
        self.check("0", "#")
        self.check("*", "#")
        self.check("#", "w")
        self.check("9", "#")

    def test_where_they_differ_first(self):
        self.check("0ww", "100")
        self.check("5#0w", "5w00")
        self.check("12340", "1234w")
        self.check("129", "12*")
        self.check("1*9", "1#0")

    def test_two_hundred_signs(self):
        for place in (0, 1, 99, 198, 199):
            one, other = ["*"] * 200, ["*"] * 200
            other[place] = "#"
            one[place + 1:] = ["w"] * (199 - place)
            self.check("".join(one), "".join(other))

    def test_all_short_rows(self):
        rows = [""] + list(SIGNS) + ["".join(row) for row in itertools.product(SIGNS, repeat=2)]
        for place, row in enumerate(rows):
            for further, other in enumerate(rows):
                self.assertIs(earlier(row, other), place < further)


class Samples(samples.SampleCase):
    def test_they_have_no_faults(self):
        for house in (self.small, self.trap, self.names):
            self.assertEqual(faults(house), [])


class Places(samples.SampleCase):
    def check_form(self, house, hour):
        """What holds of the places of every house."""
        told = places(house, hour)
        self.assertIs(type(told), list)
        self.assertEqual(told[0], (begin(house, hour), ""))
        states = [place[0] for place in told]
        self.assertEqual(len(set(states)), len(states))
        for now, row in told:
            self.assertEqual(walk(house, hour, row)[-1], now)
            for sign in SIGNS:
                self.assertIn(step(house, hour, now, sign), states)
        for one, other in zip(told, told[1:]):
            self.assertTrue(earlier(one[1], other[1]), (one, other))
        for place in told:
            self.assertEqual([type(part) for part in place], [tuple, str])
        return told

    def test_a_small_house(self):
        told = [(state("a"), ""), (state("a", "", 1), "0"), (state("b", "a"), "1"), (state("a", "a"), "w"),
                (state("z", "a"), "00"), (state("a", "a", 1), "w0")]
        for hour in range(24):
            self.assertEqual(places(self.small, hour), told)
        self.check_form(self.small, 0)

    def test_back_makes_states_of_its_own(self):
        rooms = {"a": ("menu", "x", (("1", "b"), ("2", "c")), (1, "a"), (1, "a")), "b": ("hand", "x"),
                 "c": ("menu", "x", (("7", "back"), ("8", "b")), (1, "c"), (1, "c"))}
        told = [(state("a"), ""), (state("a", "a"), "0"), (state("b", "a"), "1"), (state("c", "a"), "2"),
                (state("c", "c"), "20"), (state("a", "c"), "27"), (state("b", "c"), "28")]
        self.assertEqual(self.check_form(samples.house_of(rooms), 0), told)

    def test_wrong_keys_and_waits_make_states_of_their_own(self):
        house = samples.house_of({"a": ("menu", "x", (), (3, "z"), (2, "z")), "z": ("end", "x")})
        told = [(state("a"), ""), (state("a", "", 1), "0"), (state("a", "", 0, 1), "w"), (state("a", "", 2), "00"),
                (state("a", "", 1, 1), "0w"), (state("z", "a"), "ww"), (state("a", "", 2, 1), "00w")]
        self.assertEqual(self.check_form(house, 0), told)

    def test_what_is_typed_makes_states_of_its_own(self):
        told = [(state("who"), ""), (state("who", "", 1), "0"), (state("who", typed="2"), "2"), (state("dora", "who"), "3"),
                (state("who", "", 0, 1), "w"), (state("bye", "who"), "00"), (state("who", "", 1, 0, "2"), "02"),
                (state("who", "", 1, 1), "0w"), (state("anna", "who"), "22"), (state("carl", "who"), "23"),
                (state("who", "", 0, 1, "2"), "w2"), (state("who", "", 1, 1, "2"), "0w2")]
        self.assertEqual(self.check_form(self.names, 0), told)

    def test_the_first_of_two_rows_to_one_state(self):
        rooms = {"a": ("menu", "x", (("5", "z"), ("*", "z"), ("#", "y")), (9, "a"), (1, "y")), "y": ("end", "y"), "z": ("end", "z")}
        told = dict(self.check_form(samples.house_of(rooms), 0))
        self.assertEqual(told[state("z", "a")], "5")
        self.assertEqual(told[state("y", "a")], "#")

    def test_a_shorter_row_of_later_signs_is_the_first(self):
        rooms = {"a": ("menu", "x", (("0", "b"),), (1, "b"), (1, "z")), "b": ("menu", "x", (("0", "z"),), (1, "b"), (1, "b")),
                 "z": ("end", "x")}
        told = self.check_form(samples.house_of(rooms), 0)
        self.assertEqual(told, [(state("a"), ""), (state("b", "a"), "0"), (state("z", "a"), "w"), (state("z", "b"), "00"),
                                (state("b", "b"), "01")])

    def test_a_hand_or_an_end_alone(self):
        for kind in ("hand", "end"):
            house = samples.house_of({"a": (kind, "x"), "b": ("end", "y")})
            self.assertEqual(self.check_form(house, 7), [(state("a"), "")])

    def test_a_room_of_hours_first(self):
        rooms = dict(self.small["rooms"], gate=("hours", ((8, 18, "a"),), "z"))
        house = samples.house_of(rooms, first="gate")
        for hour in (8, 12, 17):
            self.assertEqual(self.check_form(house, hour), places(self.small, hour))
        for hour in (0, 7, 18, 23):
            self.assertEqual(self.check_form(house, hour), [(state("z"), "")])

    def test_they_hang_on_the_hour(self):
        day = [now for now, row in self.check_form(self.trap, 17)]
        night = [now for now, row in self.check_form(self.trap, 18)]
        self.assertIn(state("day", "a"), day)
        self.assertNotIn(state("night", "a"), day)
        self.assertIn(state("night", "a"), night)
        self.assertNotIn(state("day", "a"), night)

    def test_told_anew_it_is_the_same(self):
        for house in (self.small, self.trap, self.names):
            kept = places(house, 3)
            other = places(house, 3)
            other.clear()
            self.assertEqual(places(house, 3), kept)
            kept.append("more")
            self.assertEqual(places(house, 3), kept[:-1])

    def test_what_was_asked_before_is_not_kept(self):
        other = copy.deepcopy(self.names)
        self.assertEqual(len(places(other, 0)), 12)
        other["letters"] = [("2", "a"), ("3", "bc"), ("4", "d")]
        other["rooms"]["who"] = ("names", "x", (("a", "anna"),), (1, "bye"), (1, "bye"))
        self.assertEqual(places(other, 0), [(state("who"), ""), (state("bye", "who"), "0"), (state("anna", "who"), "2")])

    def test_many_states(self):
        told = self.check_form(samples.long_house(9), 0)
        self.assertTrue(1700 < len(told) <= 2000, len(told))
        told = self.check_form(samples.deep_house(), 0)
        self.assertTrue(900 < len(told) <= 2000, len(told))
        self.assertGreater(len(told[-1][1]), 100)

    def test_all_short_rows(self):
        for house in (self.small, self.trap, self.names):
            for hour in (0, 20):
                rows = {}
                for size in range(4):
                    for row in itertools.product(SIGNS, repeat=size):
                        rows.setdefault(second.walk(house, hour, row)[-1], "".join(row))
                self.assertEqual([place for place in places(house, hour) if len(place[1]) < 4], list(rows.items()))


class Outs(samples.SampleCase):
    def check(self, house, hour, told):
        answer = outs(house, hour)
        self.assertEqual(answer, told)
        self.assertIs(type(answer), list)
        self.assertTrue(all(many is None or type(many) is int for many in answer))

    def test_a_small_house(self):
        self.check(self.small, 0, [1, 1, 0, 1, 0, 1])

    def test_names(self):
        self.check(self.names, 0, [1, 1, 1, 0, 1, 0, 1, 1, 0, 0, 1, 1])

    def test_a_hand_or_an_end_first(self):
        for kind in ("hand", "end"):
            self.check(samples.house_of({"a": (kind, "x")}), 0, [0])

    def test_none(self):
        self.check(samples.house_of({"a": ("menu", "x", (), (1, "a"), (1, "a"))}), 0, [None, None])
        rooms = {"a": ("menu", "x", (("1", "z"),), (1, "b"), (1, "b")), "b": ("menu", "x", (), (1, "b"), (1, "b")),
                 "z": ("end", "x")}
        # (a), (b from a), (z from a), (b from b)
        self.check(samples.house_of(rooms), 0, [1, None, 0, None])

    def test_further_away(self):
        rooms = {"a": ("menu", "x", (), (3, "b"), (9, "a")), "b": ("menu", "x", (), (9, "b"), (2, "z")), "z": ("end", "x")}
        house = samples.house_of(rooms)
        told = dict(zip([now for now, row in places(house, 0)], outs(house, 0)))
        self.assertEqual(told[state("a")], 5)
        self.assertEqual(told[state("a", "", 2)], 3)
        self.assertEqual(told[state("a", "", 0, 8)], 5)
        self.assertEqual(told[state("b", "a")], 2)
        self.assertEqual(told[state("b", "a", 8, 1)], 1)
        self.assertEqual(told[state("z", "b")], 0)

    def test_a_trap_behind_wrong_keys_alone(self):
        told = dict(zip([now for now, row in places(self.trap, 0)], outs(self.trap, 0)))
        self.assertEqual(told[state("a")], 1)
        self.assertEqual(told[state("a", "", 1)], 1)
        self.assertEqual(told[state("b", "a")], 2)
        self.assertEqual(told[state("c", "a")], None)

    def test_one_more_than_the_least_of_the_next_ones(self):
        for house in (self.small, self.trap, self.names, samples.long_house(3)):
            told = dict(zip([now for now, row in places(house, 0)], outs(house, 0)))
            for now, many in told.items():
                if house["rooms"][now[0]][0] in ("hand", "end"):
                    self.assertEqual(many, 0)
                else:
                    further = [told[step(house, 0, now, sign)] for sign in SIGNS]
                    further = [other for other in further if other is not None]
                    self.assertEqual(many, min(further) + 1 if further else None)

    def test_long_ways(self):
        self.assertEqual(outs(samples.deep_house(), 0)[0], 121)
        self.assertEqual(outs(samples.long_house(9), 0)[0], 11)

    def test_the_answer_is_the_askers_own(self):
        kept = outs(self.small, 0)
        kept.clear()
        self.check(self.small, 0, [1, 1, 0, 1, 0, 1])


class Traps(samples.SampleCase):
    def test_none(self):
        self.assertEqual(traps(self.small, 0), [])
        self.assertEqual(traps(self.names, 0), [])
        self.assertEqual(traps(samples.house_of({"a": ("end", "x")}), 0), [])

    def test_from_the_begin_on(self):
        house = samples.house_of({"a": ("menu", "x", (), (2, "a"), (1, "a")), "z": ("end", "x")})
        self.assertEqual(traps(house, 0), places(house, 0))
        self.assertEqual(traps(house, 0)[0], (state("a"), ""))
        self.assertEqual(len(traps(house, 0)), 4)

    def test_some_of_the_places(self):
        told = [(state("c", "a"), "1"), (state("b", "c"), "10"), (state("c", "c"), "1w"), (state("c", "b"), "000"),
                (state("b", "b"), "00w")]
        for hour in (0, 20):
            self.assertEqual(traps(self.trap, hour), told)
            self.assertIs(type(traps(self.trap, hour)), list)

    def test_by_the_hour(self):
        rooms = {"a": ("menu", "x", (("1", "gate"),), (1, "a"), (1, "a")), "gate": ("hours", ((8, 18, "z"),), "a"),
                 "z": ("hand", "x")}
        house = samples.house_of(rooms)
        self.assertEqual(traps(house, 8), [])
        self.assertEqual(traps(house, 18), [(state("a"), ""), (state("a", "a"), "0")])

    def test_the_answer_is_the_askers_own(self):
        kept = traps(self.trap, 0)
        other = traps(self.trap, 0)
        other.clear()
        self.assertEqual(traps(self.trap, 0), kept)


class Ends(samples.SampleCase):
    def check(self, house, hour, told):
        answer = ends(house, hour)
        self.assertEqual(answer, told)
        self.assertIs(type(answer), list)
        self.assertTrue(all(type(pair) is tuple for pair in answer))

    def test_hands_and_ends(self):
        self.check(self.small, 0, [("b", "1"), ("z", "00")])
        self.check(self.names, 0, [("dora", "3"), ("bye", "00"), ("anna", "22"), ("carl", "23")])

    def test_rooms_that_nobody_comes_to(self):
        self.check(self.trap, 17, [("day", "5")])
        self.check(self.trap, 18, [("night", "5")])

    def test_none(self):
        self.check(samples.house_of({"a": ("menu", "x", (), (1, "a"), (1, "a")), "z": ("end", "x")}), 0, [])

    def test_the_first_room(self):
        self.check(samples.house_of({"a": ("hand", "x"), "z": ("end", "x")}), 0, [("a", "")])
        self.check(samples.house_of({"a": ("hand", "x"), "z": ("end", "x")}, first="z"), 0, [("z", "")])

    def test_once_though_come_to_from_several_rooms(self):
        rooms = {"a": ("menu", "x", (("1", "b"), ("9", "z")), (1, "a"), (1, "z")),
                 "b": ("menu", "x", (("1", "z"), ("2", "y")), (1, "a"), (1, "a")), "y": ("hand", "x"), "z": ("end", "x")}
        house = samples.house_of(rooms)
        self.assertEqual([now[0] for now, row in places(house, 0)].count("z"), 2)
        self.check(house, 0, [("z", "9"), ("y", "12")])

    def test_in_the_order_of_the_rows_not_of_the_rooms(self):
        rooms = {"y": ("hand", "x"), "z": ("end", "x"), "a": ("menu", "x", (("1", "z"), ("2", "y")), (1, "a"), (1, "a"))}
        self.check(samples.house_of(rooms), 0, [("z", "1"), ("y", "2")])

    def test_the_answer_is_the_askers_own(self):
        ends(self.small, 0).clear()
        self.check(self.small, 0, [("b", "1"), ("z", "00")])


class ManyHouses(unittest.TestCase):
    def test_by_a_second_way(self):
        chance = random.Random(17)
        seen = {"traps": 0, "outs": 0, "typed": 0, "back": 0, "ends": 0}
        for count in range(120):
            house = samples.some_sound_house(chance)
            before = copy.deepcopy(house)
            hour = chance.randrange(24)
            self.assertEqual(second.faults(house), [])
            told = places(house, hour)
            if len(told) > 80:
                continue
            self.assertEqual(told, second.places(house, hour), (house, hour))
            self.assertEqual(outs(house, hour), second.outs(house, hour), (house, hour))
            self.assertEqual(traps(house, hour), second.traps(house, hour), (house, hour))
            self.assertEqual(ends(house, hour), second.ends(house, hour), (house, hour))
            self.assertEqual(house, before)
            seen["traps"] += 0 < len(traps(house, hour)) < len(told)
            seen["outs"] += max(many or 0 for many in outs(house, hour)) > 1
            seen["typed"] += any(now[4] for now, row in told)
            seen["back"] += len({now[:1] + now[2:] for now, row in told}) < len(told)
            seen["ends"] += len(ends(house, hour)) > 1
        self.assertGreater(min(seen.values()), 10, seen)
