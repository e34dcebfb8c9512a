"""The reader against a second one, written by patterns over whole beginnings of a text."""

import random
import re
import unittest

import samples
from menutree.errors import NoHouse
from menutree.houses import read_house, show_house

NAME = "(?!back(?![a-z]))[a-z]{1,8}"
TEXT = "[ -$&-~]{1,80}"
LIMITS = f"[1-9] {NAME} [1-9] {NAME}"
FROM = "([0-9]|1[0-9]|2[0-3])"
TILL = "([1-9]|1[0-9]|2[0-4])"

# Each sort of row by one letter, so that a pattern can tell the order of rows.
ROWS = {
    "F": f"first {NAME}",
    "L": "letters [0-9*] [a-z]{1,26}",
    "M": f"menu {NAME} {LIMITS} {TEXT}",
    "k": f"key [0-9*#] (back|{NAME})",
    "N": f"names {NAME} {LIMITS} {TEXT}",
    "w": f"name [a-z]{{1,12}} {NAME}",
    "H": f"hours {NAME} {NAME}",
    "s": f"from {FROM} {TILL} {NAME}",
    "D": f"(hand|end) {NAME} {TEXT}",
}
ORDER = "(F(L*)((Mk{0,12}|Nw{0,12}|Hs{0,12}|D)*))?"


def sort_of(row):
    for letter, pattern in ROWS.items():
        if re.fullmatch(pattern, row):
            return letter
    return "?"


def rising(things):
    return all(one < other for one, other in zip(things, things[1:]))


def stands(rows):
    """Whether these rows may be the first ones of a house."""
    sorts = "".join(sort_of(row) for row in rows)
    if not re.fullmatch(ORDER, sorts):
        return False
    parts = [row.split(" ") for row in rows]
    letters = [part for sort, part in zip(sorts, parts) if sort == "L"]
    told = "".join(part[2] for part in letters)
    rooms = [part[1] for sort, part in zip(sorts, parts) if sort in "MNHD"]
    if len(set(told)) < len(told) or not rising([samples.KEYS.index(part[1]) for part in letters]):
        return False
    if len(set(rooms)) < len(rooms) or len(rooms) > 12:
        return False
    if any(int(part[1]) >= int(part[2]) for sort, part in zip(sorts, parts) if sort == "s"):
        return False
    for run in re.finditer("k+|w+", sorts):
        held = [part[1] for part in parts[run.start():run.end()]]
        if not rising([samples.KEYS.index(key) for key in held] if run[0][0] == "k" else held):
            return False
    return True


def blamed(text):
    """The number of the row to blame, or None where the text is a house."""
    rows = text.split("\n")
    for many in range(1, len(rows) + 1):
        if not stands(rows[:many]):
            return many
    sorts = "".join(sort_of(row) for row in rows)
    if not re.search("[MNHD]", sorts):
        return len(rows) + 1
    bare = re.search("N(?!w)", sorts)
    return bare.start() + 1 if bare else None


def changed_signs(chance, text):
    """The text with one sign taken away, put in or changed."""
    place = chance.randrange(len(text) + 1)
    sign = chance.choice(" \n%~019*#abwz\t\u00e4")
    return chance.choice((text[:place] + text[place + 1:], text[:place] + sign + text[place:],
                          text[:place] + sign + text[place + 1:]))


def changed_rows(chance, text):
    """The text with a row taken away, told again, or moved."""
    rows = text.split("\n")
    row = rows[chance.randrange(len(rows))]
    if chance.randrange(3):
        rows.remove(row)
    if chance.randrange(3):
        rows.insert(chance.randrange(len(rows) + 1), row)
    return "\n".join(rows)


class Oracle(unittest.TestCase):
    def answer(self, text):
        try:
            house = read_house(text)
        except NoHouse as error:
            return error.row
        self.assertEqual(show_house(house), text)
        return None

    def test_both_readers_blame_the_same_row(self):
        chance = random.Random(8)
        seen = {True: 0, False: 0}
        for count in range(600):
            text = show_house(samples.some_house(chance))
            self.assertIsNone(blamed(text))
            for steps in range(4):
                text = chance.choice((changed_signs, changed_rows))(chance, text)
                right = blamed(text)
                self.assertEqual(self.answer(text), right, text)
                seen[right is None] += 1
        self.assertGreater(min(seen.values()), 100)

    def test_each_place_of_a_text(self):
        for place in range(len(samples.FULL_TEXT)):
            for sign in ("", " ", "\n", "0", "a", "%"):
                text = samples.FULL_TEXT[:place] + sign + samples.FULL_TEXT[place + 1:]
                self.assertEqual(self.answer(text), blamed(text), text)
