"""The desk: its rows and their answers, its refusals, and that calls go on in the house in which they began."""

import random
import unittest

import samples
import second
from menutree import errors
from menutree.classes import classes
from menutree.desk import Desk
from menutree.houses import read_house, show_house
from second_desk import SecondDesk

SMALL = samples.SMALL_TEXT
TRAP = samples.TRAP_TEXT
NAMES = samples.NAMES_TEXT
HAND = "first a\nhand a Anna"

KINDS = "house house house drop show call call press press press hang row row row least traps compare compare names names".split()
SORTS = "house drop show call press hang row least traps compare names NoRow NoName NoHour NoCall NoHouse Faulty".split()

# What is no text: whatever may be handed in.
NO_TEXTS = (None, 0, 1, True, b"show a", ["show", "a"], ("show a",), {"show": "a"}, {"show a"}, 1.5, object(), Desk)


class Desks(unittest.TestCase):
    def setUp(self):
        self.desk = Desk()

    def keep(self, **texts):
        for name, text in texts.items():
            self.check(f"house {name}\n{text}", "ok")

    def check(self, row, told):
        answer = self.desk.say(row)
        self.assertEqual(answer, told, row)
        self.assertIs(type(answer), str)

    def refuse(self, name, *rows):
        """Each of these rows is refused with just this refusal; the last error is given back."""
        for row in rows:
            with self.assertRaises(errors.MenuError, msg=row) as caught:
                self.desk.say(row)
            self.assertIs(type(caught.exception), getattr(errors, name), row)
        return caught.exception


class Houses(Desks):
    def test_kept_and_shown(self):
        self.keep(a=SMALL, b=TRAP)
        self.check("show a", SMALL)
        self.check("show b", TRAP)

    def test_in_the_place_of_another(self):
        self.keep(a=SMALL, b=TRAP)
        self.keep(a=NAMES)
        self.check("show a", NAMES)
        self.check("show b", TRAP)

    def test_dropped(self):
        self.keep(a=SMALL, b=TRAP)
        self.check("drop a", "ok")
        self.refuse("NoName", "show a", "drop a", "call a 0")
        self.check("show b", TRAP)
        self.keep(a=NAMES)
        self.check("show a", NAMES)

    def test_names_of_all_sorts(self):
        for name in ("a", "zzzzzzzz", "house", "first", "none", "backs", "bac", "w"):
            self.check(f"house {name}\n{SMALL}", "ok")
            self.check(f"show {name}", SMALL)

    def test_texts_with_blanks_and_words_of_the_desk(self):
        text = "first a\nend a  show a house b  "
        self.keep(a=text)
        self.check("show a", text)
        self.check("call a 0", "1 end  show a house b  ")

    def test_no_name(self):
        for name in ("", "back", "A", "a1", "abcdefghi", "a-", "*", "1"):
            self.refuse("NoName", f"house {name}\n{SMALL}", f"house {name}\nno house", f"house {name}\n")
        self.refuse("NoName", "show a")

    def test_no_house(self):
        for text, row in (("", 1), ("first a", 2), ("first a\n", 2), ("first a\nhand a Anna\n", 3), ("\n" + HAND, 1),
                          ("first a\nhand a", 2), ("first a\nnames a 1 a 1 a x", 2), (SMALL + "\nkey 1 b", 6),
                          (" " + HAND, 1), ("show a", 1), (HAND + "\nhand b %", 3), (SMALL.replace("key 1 b", "key 1 b\nkey 0 b"), 4)):
            self.assertEqual(self.refuse("NoHouse", "house a\n" + text).row, row, text)
        self.refuse("NoName", "show a")

    def test_a_house_with_faults(self):
        text = "first c\nmenu a 1 d 1 a x\nhours e e\nend z y"
        told = [("lost", "", "c"), ("lost", "a", "d")] + [("ring", hour, "e") for hour in range(24)]
        self.assertEqual(self.refuse("Faulty", "house a\n" + text).faults, told)
        text = "first a\nletters 2 ab\nnames a 1 a 1 a x\nname a a\nname b a\nname c a"
        error = self.refuse("Faulty", "house a\n" + text)
        self.assertEqual(error.faults, [("letter", "a", "c"), ("twins", "a", "a", "b")])
        self.assertIs(type(error.faults), list)
        self.refuse("NoName", "show a")
        error.faults.clear()
        self.assertEqual(self.refuse("Faulty", "house a\n" + text).faults, [("letter", "a", "c"), ("twins", "a", "a", "b")])

    def test_what_is_refused_leaves_the_house_that_stood(self):
        self.keep(a=SMALL)
        self.refuse("NoHouse", "house a\nfirst a")
        self.refuse("Faulty", "house a\nfirst b\nhand a Anna")
        self.check("show a", SMALL)

    def test_row_ends(self):
        self.refuse("NoRow", "house a", "house", "house ", "house a b", f"house a b\n{HAND}", f"house\n{HAND}",
                    f"house  a\n{HAND}", f"house a \n{HAND}", f" house a\n{HAND}", f"\nhouse a\n{HAND}", f"house\na\n{HAND}",
                    f"houses a\n{HAND}", f"House a\n{HAND}")
        self.refuse("NoName", f"house \n{HAND}")
        self.assertEqual(self.refuse("NoHouse", "house a\n").row, 1)
        self.assertEqual(self.refuse("NoHouse", f"house a\n\n{HAND}").row, 1)
        self.refuse("NoName", f"house a\r\n{HAND}")

    def test_a_large_house(self):
        text = show_house(samples.long_house(9))
        self.keep(a=text)
        self.check("show a", text)
        self.check("row a 0 z", "1" * 11)
        self.check("traps a 23", "none")
        self.check("compare a a 5", "alike")
        self.check("least a 0", str(len(set(classes(samples.long_house(9), 0)))))


class Calls(Desks):
    def test_what_is_heard(self):
        self.keep(a=SMALL)
        self.check("call a 0", "1 asked Hello")
        self.check("press 1 1", "hand Anna")
        self.check("call a 23", "2 asked Hello")
        self.check("press 2 00", "end Good bye")

    def test_numbers_rise(self):
        self.keep(a=HAND)
        for number in range(1, 30):
            self.check("call a 9", f"{number} hand Anna")

    def test_numbers_are_never_given_twice(self):
        self.keep(a=HAND)
        for number in (1, 2, 3):
            self.check("call a 0", f"{number} hand Anna")
        self.check("hang 3", "ok")
        self.check("call a 0", "4 hand Anna")
        for number in (1, 2, 4):
            self.check(f"hang {number}", "ok")
        self.check("call a 0", "5 hand Anna")
        self.check("drop a", "ok")
        self.keep(a=HAND)
        self.check("call a 0", "6 hand Anna")

    def test_a_refused_call_takes_no_number(self):
        self.keep(a=HAND)
        self.refuse("NoHour", "call a 24")
        self.refuse("NoName", "call b 0")
        self.refuse("NoRow", "call a", "call a 0 ")
        self.check("call a 0", "1 hand Anna")

    def test_pressed_by_and_by(self):
        self.keep(a=NAMES)
        self.check("call a 0", "1 asked Whom?")
        self.check("press 1 2", "asked Whom?")
        self.check("press 1 ", "asked Whom?")
        self.check("press 1 3", "hand Carl")

    def test_no_signs_change_nothing(self):
        self.keep(a=SMALL)
        self.check("call a 0", "1 asked Hello")
        for count in range(5):
            self.check("press 1 ", "asked Hello")
        self.check("press 1 0", "asked Hello")
        self.check("press 1 ", "asked Hello")
        self.check("press 1 0", "end Good bye")
        self.check("press 1 ", "end Good bye")

    def test_every_sign(self):
        self.keep(a=SMALL)
        self.check("call a 0", "1 asked Hello")
        self.check("press 1 0w", "asked Hello")
        self.check("press 1 *#", "end Good bye")

    def test_signs_behind_a_hand_or_an_end(self):
        self.keep(a=SMALL)
        for number, row, told in ((1, "1", "hand Anna"), (2, "00", "end Good bye")):
            self.check("call a 0", f"{number} asked Hello")
            self.check(f"press {number} {row}", told)
            self.check(f"press {number} 0123456789*#w", told)
            self.check(f"press {number} ", told)
            self.check(f"hang {number}", "ok")

    def test_calls_do_not_hang_on_one_another(self):
        self.keep(a=SMALL)
        self.check("call a 0", "1 asked Hello")
        self.check("call a 0", "2 asked Hello")
        self.check("press 1 0", "asked Hello")
        self.check("press 2 1", "hand Anna")
        self.check("press 1 2", "end Good bye")
        self.check("press 2 ", "hand Anna")

    def test_the_hour_at_which_it_began(self):
        self.keep(a=TRAP)
        self.check("call a 17", "1 asked Hello")
        self.check("call a 18", "2 asked Hello")
        self.check("press 1 5", "hand Anna")
        self.check("press 2 5", "end We are closed")

    def test_a_room_of_hours_first(self):
        self.keep(a=TRAP.replace("first a", "first gate"))
        self.check("call a 0", "1 hand Anna")
        self.check("call a 20", "2 end We are closed")

    def test_the_house_told_anew(self):
        self.keep(a=SMALL)
        self.check("call a 0", "1 asked Hello")
        self.keep(a=NAMES)
        self.check("call a 0", "2 asked Whom?")
        self.check("press 1 0", "asked Hello")
        self.check("press 1 1", "hand Anna")
        self.check("press 2 3", "hand Dora")

    def test_the_house_told_anew_with_the_same_rooms(self):
        self.keep(a=SMALL)
        self.check("call a 0", "1 asked Hello")
        self.keep(a=SMALL.replace("key 1 b", "key 2 b").replace("Anna", "Otto"))
        self.check("press 1 1", "hand Anna")
        self.check("call a 0", "2 asked Hello")
        self.check("press 2 2", "hand Otto")

    def test_the_house_dropped(self):
        self.keep(a=SMALL)
        self.check("call a 0", "1 asked Hello")
        self.check("drop a", "ok")
        self.check("press 1 0", "asked Hello")
        self.check("press 1 0", "end Good bye")
        self.refuse("NoName", "call a 0")
        self.check("hang 1", "ok")

    def test_hung(self):
        self.keep(a=SMALL)
        self.check("call a 0", "1 asked Hello")
        self.check("call a 0", "2 asked Hello")
        self.check("hang 1", "ok")
        self.refuse("NoCall", "hang 1", "press 1 ", "press 1 0")
        self.check("press 2 1", "hand Anna")

    def test_long_rows(self):
        self.keep(a=TRAP)
        self.check("call a 0", "1 asked Hello")
        self.check("press 1 1" + "0" * 199, "asked Round")
        self.check("press 1 " + "0" * 199, "asked And round")


class Reach(Desks):
    def test_row(self):
        self.keep(a=SMALL, b=NAMES, c=TRAP, d=HAND)
        self.check("row a 0 b", "1")
        self.check("row a 23 z", "00")
        self.check("row b 0 carl", "23")
        self.check("row d 0 a", "-")

    def test_row_to_a_room_that_nobody_comes_to(self):
        self.keep(c=TRAP)
        self.check("row c 0 never", "none")
        self.check("row c 17 night", "none")
        self.check("row c 17 day", "5")
        self.check("row c 18 night", "5")
        self.check("row c 18 day", "none")

    def test_row_to_no_such_room(self):
        self.keep(c=TRAP, b=NAMES)
        self.refuse("NoName", "row c 0 nowhere", "row c 0 ", "row c 0 a", "row c 0 gate", "row b 0 who", "row b 0 day", "row c 0 back",
                    "row c 0 day\n", "row c 0 0", "row c 0 c")

    def test_least(self):
        self.keep(a=SMALL, d=HAND, b=NAMES)
        self.check("least a 0", "4")
        self.check("least d 0", "1")
        self.check("least b 12", "12")

    def test_traps(self):
        self.keep(a=SMALL, c=TRAP, e="first a\nmenu a 1 a 2 a x")
        self.check("traps a 0", "none")
        self.check("traps c 0", "1 10 1w 000 00w")
        self.check("traps e 0", "- 0 w 0w")

    def test_compare(self):
        self.keep(a=SMALL, b=SMALL.replace("Anna", "Otto"), c=TRAP, d=HAND)
        self.check("compare a a 0", "alike")
        self.check("compare a b 0", "apart 1")
        self.check("compare b a 0", "apart 1")
        self.check("compare a d 0", "apart -")
        self.keep(e=show_house(samples.renamed(read_house(SMALL), {"a": "hall"})))
        self.check("compare a e 23", "alike")

    def test_compare_by_the_hour(self):
        self.keep(a=TRAP, b=TRAP.replace("from 18 24", "from 19 24"))
        self.check("compare a b 17", "alike")
        self.check("compare a b 18", "apart 5")
        self.check("compare a b 19", "alike")

    def test_names(self):
        self.keep(a=SMALL, b=NAMES)
        self.check("names b who", "ab=22 ac=23 d=3")
        self.keep(c="first who\nletters 2 a\nnames who 1 who 1 who x\nname a who\nname aa who")
        self.check("names c who", "a=2# aa=22")
        self.keep(d="first who\nletters * z\nnames who 1 who 1 who x\nname zzz who")
        self.check("names d who", "zzz=*")
        self.refuse("NoName", "names a a", "names a b", "names b anna", "names b nobody", "names b ", "names b bye", "names a who")


class Refusals(Desks):
    def setUp(self):
        Desks.setUp(self)
        self.keep(a=SMALL, b=NAMES)
        self.check("call a 0", "1 asked Hello")
        self.check("call a 0", "2 asked Hello")
        self.check("hang 1", "ok")

    def test_what_is_no_text(self):
        for thing in NO_TEXTS:
            self.refuse("NoRow", thing)

    def test_no_row(self):
        self.refuse("NoRow", "", " ", "\n", "hello", "Show a", "SHOW a", "show", "drop", "call", "press", "hang", "row", "least", "traps",
                    "compare", "names", " show a", "show\na", "show\ta", "ok", "house", "drops a", "-")

    def test_words_too_many_or_too_few(self):
        good = {"drop": "a", "show": "a", "call": "a 0", "press": "2 0", "hang": "2", "row": "a 0 b", "least": "a 0", "traps": "a 0",
                "compare": "a b 0", "names": "b who"}
        for word, rest in good.items():
            row = f"{word} {rest}"
            fewer = row.rpartition(" ")[0]
            self.refuse("NoRow", row + " ", row + " a", row + "  ", " " + row, row.replace(" ", "  ", 1), fewer)
        # None of these has done anything.
        for word in ("show", "traps", "call", "press", "least", "row", "compare", "names", "hang", "drop"):
            self.desk.say(f"{word} {good[word]}")

    def test_words_without_signs(self):
        self.refuse("NoName", "show ", "drop ", "call  0", "row  0 b", "least  0", "traps  0", "compare  b 0", "compare a  0", "names  who",
                    "names b ", "row a 0 ")
        self.refuse("NoHour", "call a ", "row a  b", "least a ", "traps a ", "compare a b ")
        self.refuse("NoCall", "press  0", "press  ", "hang ")

    def test_no_house_by_this_name(self):
        for name in ("c", "A", "back", "1", "a\n", "\na", "ab", "-"):
            self.refuse("NoName", f"show {name}", f"drop {name}", f"call {name} 0", f"row {name} 0 b", f"least {name} 0", f"traps {name} 0",
                        f"compare {name} a 0", f"compare a {name} 0", f"names {name} who")

    def test_a_row_end_is_a_sign_like_others(self):
        self.refuse("NoName", "show a\n", f"drop a\n{SMALL.partition(' ')[0]}")
        self.refuse("NoHour", "call a 0\n", "least a \n0")
        self.refuse("NoCall", "hang 2\n", "press 2\n 0")
        self.refuse("NoSigns", "press 2 0\n", "press 2 \n")
        self.refuse("NoRow", f"drop a\n{SMALL}", "show a\nshow a", "show\n a", "\nshow a")

    def test_no_hour(self):
        for hour in ("24", "-1", "00", "01", "023", "25", "100", "1.0", "+1", "x", "-0", "0x1", "1e0", "9" * 5000, "w", "_1", "1_0", "\t1"):
            self.refuse("NoHour", f"call a {hour}", f"row a {hour} b", f"least a {hour}", f"traps a {hour}", f"compare a b {hour}")

    def test_each_hour(self):
        for hour in range(24):
            self.check(f"call a {hour}", f"{hour + 3} asked Hello")
            self.check(f"least a {hour}", "4")

    def test_no_call(self):
        for number in ("0", "1", "3", "02", "-2", "+2", "2.0", "a", "x", "00", "9" * 5000, "2\t", "_2"):
            self.refuse("NoCall", f"press {number} 0", f"press {number} ", f"hang {number}")
        self.check("press 2 1", "hand Anna")

    def test_no_signs(self):
        for signs in ("a", "W", "0a", "x0", "-", "+", "0123456789*#wx", "ww\t", "1,2", "0\n"):
            self.refuse("NoSigns", f"press 2 {signs}")
        # Nothing was pressed, not even the signs ahead of those that are none.
        self.check("press 2 0", "asked Hello")
        self.check("press 2 0", "end Good bye")

    def test_from_the_left_to_the_right(self):
        self.refuse("NoName", "call c 24", "row c 24 b", "row c 24 nobody", "least c 24", "traps c 24", "compare c c 24", "compare a c 24",
                    "compare c a 24", "names c nobody")
        self.refuse("NoHour", "row a 24 b", "row a 24 nobody", "row a 24 a", "compare a b 24")
        self.refuse("NoCall", "press 1 x", "press 0 x", "press x x")
        self.refuse("NoName", "house A\nno house", "house back\nfirst b\nhand a x")
        self.refuse("NoRow", "call c 24 x", "press 1", "row c 24", "house A")

    def test_no_house_ahead_of_faults(self):
        self.refuse("NoHouse", "house c\nfirst b\nhand a x\nhand a y")

    def test_what_is_refused_changes_nothing(self):
        other = Desk()
        for row in (f"house a\n{SMALL}", f"house b\n{NAMES}", "call a 0", "call a 0", "hang 1"):
            other.say(row)
        self.refuse("NoName", "drop c", f"house A\n{TRAP}", "call c 0", "row a 0 a", "names a a", "compare a c 0")
        self.refuse("NoHour", "call a 24", "row a 24 b")
        self.refuse("NoCall", "hang 1", "press 1 1", "hang 3")
        self.refuse("NoSigns", "press 2 1x")
        self.refuse("NoRow", "press 2", "drop a ", "hang 2 ", "call a 0 0", "press 2 1 1", None)
        self.refuse("NoHouse", "house a\nfirst", "house c\nfirst")
        self.refuse("Faulty", "house a\nfirst x\nhand a x", "house c\nfirst x\nhand a x")
        for row in ("show a", "show b", "press 2 ", "press 2 0", "press 2 0", "call a 1", "call b 2", "compare a b 0", "traps a 0"):
            self.check(row, other.say(row))
        self.refuse("NoName", "show c")


class TwoDesks(Desks):
    def test_they_know_nothing_of_each_other(self):
        self.keep(a=SMALL)
        other = Desk()
        with self.assertRaises(errors.NoName):
            other.say("show a")
        self.check("call a 0", "1 asked Hello")
        with self.assertRaises(errors.NoCall):
            other.say("press 1 ")
        self.assertEqual(other.say(f"house a\n{NAMES}"), "ok")
        self.assertEqual(other.say("call a 0"), "1 asked Whom?")
        self.check("show a", SMALL)
        self.check("press 1 1", "hand Anna")
        self.assertEqual(other.say("press 1 3"), "hand Dora")
        self.check("drop a", "ok")
        self.assertEqual(other.say("show a"), NAMES)
        self.assertEqual(other.say("hang 1"), "ok")
        self.check("press 1 ", "hand Anna")


class ManyRows(unittest.TestCase):
    def answer(self, desk, row):
        try:
            return ("told", desk.say(row))
        except errors.NoHouse as error:
            return ("NoHouse", error.row)
        except errors.Faulty as error:
            return ("Faulty", error.faults)
        except errors.MenuError as error:
            return (type(error).__name__, None)

    def some_house(self, chance):
        """A text that is mostly a house, mostly without faults."""
        sort = chance.randrange(8)
        if sort == 0:
            return "first a\nmenu a 1 b"
        if sort == 1:
            return show_house(samples.some_call_house(chance, stray=6))
        while True:
            house = samples.some_sound_house(chance)
            if max(len(second.places(house, hour)) for hour in (0, 12, 23)) < 25:
                return show_house(house)

    def some_row(self, chance, given):
        """A row with words that are mostly right."""
        name = lambda: chance.choice("aaabbbcd") if chance.randrange(12) else chance.choice(("", "A", "x", "a\n"))
        hour = lambda: str(chance.choice((0, 12, 23))) if chance.randrange(10) else chance.choice(("", "24", "00", "-1", "x"))
        call = lambda: str(chance.randint(0, given + 1)) if chance.randrange(10) else chance.choice(("", "01", "x"))
        room = lambda: chance.choice("abcdefgh") if chance.randrange(12) else chance.choice(("", "back", "zz"))
        signs = lambda: "".join(chance.choice("0123456789*#w") for count in range(chance.choice((0, 1, 2, 9))))
        kind = chance.choice(KINDS)
        if kind == "house":
            return f"house {name()}\n{self.some_house(chance)}"
        words = {"drop": [name], "show": [name], "call": [name, hour], "press": [call, signs], "hang": [call], "row": [name, hour, room],
                 "least": [name, hour], "traps": [name, hour], "compare": [name, name, hour], "names": [name, room]}[kind]
        row = " ".join([kind] + [word() for word in words])
        return row if chance.randrange(25) else chance.choice((row + " ", row + "x", row[1:], row.replace(" ", "  ", 1), row + "\n"))

    def test_by_a_second_desk(self):
        chance = random.Random(21)
        seen = {}
        for count in range(12):
            desk, other = Desk(), SecondDesk()
            for name in "abc":
                row = f"house {name}\n{self.some_house(chance)}"
                self.assertEqual(self.answer(desk, row), other.say(row))
            for step in range(200):
                row = self.some_row(chance, len(other.given))
                told = self.answer(desk, row)
                self.assertEqual(told, other.say(row), row)
                sort = row.partition(" ")[0] if told[0] == "told" else told[0]
                seen[sort] = seen.get(sort, 0) + 1
        self.assertGreater(min(seen.get(sort, 0) for sort in SORTS), 9, seen)
