"""Houses and texts that several tests share; each call makes new ones."""

import unittest

from menutree.houses import read_house

KEYS = "0123456789*#"

FULL_TEXT = """first door
letters 2 abc
letters 3 def
letters * z
menu door 3 bye 2 desk  Hello,  press a key 
key 0 desk
key 9 back
key * who
key # night
names who 1 bye 9 desk Whom? Spell ~ and end by #
name adam desk
name back door
name zed nowhere
hours night desk
from 0 24 bye
from 8 12 door
from 8 12 desk
from 23 24 nobody
hand desk Anna
end bye Good bye!"""


def full_house():
    """The house of FULL_TEXT."""
    return {
        "first": "door",
        "letters": [("2", "abc"), ("3", "def"), ("*", "z")],
        "rooms": {
            "door": (
                "menu",
                " Hello,  press a key ",
                (("0", "desk"), ("9", "back"), ("*", "who"), ("#", "night")),
                (3, "bye"),
                (2, "desk"),
            ),
            "who": (
                "names",
                "Whom? Spell ~ and end by #",
                (("adam", "desk"), ("back", "door"), ("zed", "nowhere")),
                (1, "bye"),
                (9, "desk"),
            ),
            "night": (
                "hours",
                ((0, 24, "bye"), (8, 12, "door"), (8, 12, "desk"), (23, 24, "nobody")),
                "desk",
            ),
            "desk": ("hand", "Anna"),
            "bye": ("end", "Good bye!"),
        },
    }


def numbered_names(many):
    """So many names, rising."""
    return ["room" + "abcdefghijklmnop"[place] for place in range(many)]


def house_of(rooms, letters=(), first="a"):
    """A house of these rooms."""
    return {"first": first, "letters": list(letters), "rooms": dict(rooms)}


def some_text(chance, most, alphabet="abc"):
    """A text of small letters, one to so many."""
    return "".join(chance.choice(alphabet) for count in range(chance.randint(1, most)))


def some_name(chance):
    """A name, never `back`."""
    name = some_text(chance, 8)
    return name if name != "back" else "b"


def some_plain(chance):
    """A plain text, often with blanks at its edges."""
    signs = [chr(number) for number in range(32, 127) if chr(number) != "%"] + [" "] * 60
    return "".join(chance.choice(signs) for count in range(chance.choice((1, 2, 9, 80))))


def some_pair(chance):
    """How many, and the room that is come to then."""
    return (chance.randint(1, 9), some_name(chance))


def some_room(chance):
    """A room of any of the five sorts."""
    kind = chance.choice(("menu", "names", "hours", "hand", "end"))
    if kind in ("hand", "end"):
        return (kind, some_plain(chance))
    many = chance.choice((0, 1, 3, 12))
    if kind == "hours":
        begins = [chance.randint(0, 23) for count in range(many)]
        return (kind, tuple((begin, chance.randint(begin + 1, 24), some_name(chance)) for begin in begins), "last")
    if kind == "menu":
        keys = sorted(chance.sample(KEYS, many), key=KEYS.index)
        held = tuple((key, chance.choice(("back", some_name(chance)))) for key in keys)
    else:
        words = sorted({some_text(chance, 12) for count in range(max(many, 1))})
        held = tuple((word, some_name(chance)) for word in words)
    return (kind, some_plain(chance), held, some_pair(chance), some_pair(chance))


def some_house(chance):
    """A house with up to twelve rooms."""
    alphabet = list("abcdefghijklmnopqrstuvwxyz")
    chance.shuffle(alphabet)
    letters = []
    for key in sorted(chance.sample(KEYS[:-1], chance.randint(0, 4)), key=KEYS.index):
        size = chance.randint(1, 6)
        letters.append((key, "".join(alphabet[:size])))
        alphabet = alphabet[size:]
    rooms = {}
    for count in range(chance.choice((1, 2, 4, 12))):
        rooms[some_name(chance)] = some_room(chance)
    return {"first": some_name(chance), "letters": letters, "rooms": rooms}


def some_letters(chance, alphabet="abcdef"):
    """Letters on a few keys, now and then not all of the alphabet."""
    left = list(alphabet)
    chance.shuffle(left)
    letters = []
    for key in sorted(chance.sample(KEYS[:-1], chance.choice((1, 2, 2, 3, 3, 5))), key=KEYS.index):
        size = chance.randint(1, 4)
        if left:
            letters.append((key, "".join(left[:size])))
        left = left[size:]
    return letters


def parted_words(chance, letters, many):
    """Up to so many words with codes that all differ, in any order."""
    held = "".join(part for key, part in letters)
    table = str.maketrans({letter: key for key, part in letters for letter in part})
    words = {}
    for count in range(many):
        word = some_text(chance, chance.choice((1, 3, 5)), held)
        words.setdefault(word.translate(table), word)
    return list(words.values())


def some_target(chance, rooms, stray):
    """The name of one of the rooms, or, by the chance of one in stray, perhaps of none."""
    return chance.choice("abcdefgh") if stray and not chance.randrange(stray) else chance.choice(rooms)


def some_call_room(chance, letters, rooms, stray):
    """A room that leads to others, or a hand or an end, with names of these rooms."""
    kind = chance.choice(("menu", "menu", "names", "names", "hours", "hours", "hand", "end"))
    if kind in ("hand", "end"):
        return (kind, chance.choice(("x", "y")))
    target = lambda: some_target(chance, rooms, stray)
    if kind == "hours":
        begins = [chance.randint(0, 23) for count in range(chance.choice((0, 1, 2, 4)))]
        return (kind, tuple((begin, chance.randint(begin + 1, 24), target()) for begin in begins), target())
    if kind == "menu":
        keys = sorted(chance.sample(KEYS, chance.choice((0, 1, 3, 6))), key=KEYS.index)
        held = tuple((key, chance.choice(("back", target(), target()))) for key in keys)
    elif stray:
        words = sorted({some_text(chance, 3, "abcdef") for count in range(chance.choice((1, 2, 6)))})
        held = tuple((word, target()) for word in words)
    else:
        held = tuple((word, target()) for word in sorted(parted_words(chance, letters, chance.choice((1, 2, 6)))))
    return (kind, chance.choice(("x", "y")), held, (chance.randint(1, 3), target()), (chance.randint(1, 3), target()))


def some_call_house(chance, stray=0):
    """A small house whose rooms lead to one another; without stray it has no faults but, at times, rings."""
    letters = some_letters(chance)
    names = chance.sample("abcdefgh", chance.choice((1, 2, 4, 6)))
    rooms = {name: some_call_room(chance, letters, names, stray) for name in names}
    return {"first": some_target(chance, names, stray), "letters": letters, "rooms": rooms}


# Worked through by hand where it is used: `a` is left by a wait for itself, `z` is come to by two wrong keys.
SMALL_TEXT = """first a
menu a 2 z 1 a Hello
key 1 b
hand b Anna
end z Good bye"""

# From `c` nobody comes out, from `b` only by the way back to `a`; `never` is come to from nowhere, `night` only from 18 on.
TRAP_TEXT = """first a
menu a 2 b 2 gate Hello
key 1 c
key 5 gate
menu b 1 c 1 b Round
key 9 back
menu c 1 b 1 c And round
hours gate day
from 18 24 night
hand day Anna
end night We are closed
end never Good bye"""

# Words with the codes 22#, 23# and 3#, so that 2 may be typed alone.
NAMES_TEXT = """first who
letters 2 ab
letters 3 cd
names who 2 bye 2 bye Whom?
name ab anna
name ac carl
name d dora
hand anna Anna
hand carl Carl
hand dora Dora
end bye Good bye"""


class SampleCase(unittest.TestCase):
    """Tests of these three houses, which none of them may change."""

    def setUp(self):
        self.small = read_house(SMALL_TEXT)
        self.trap = read_house(TRAP_TEXT)
        self.names = read_house(NAMES_TEXT)

    def tearDown(self):
        for house, text in ((self.small, SMALL_TEXT), (self.trap, TRAP_TEXT), (self.names, NAMES_TEXT)):
            self.assertEqual(house, read_house(text))
            self.assertEqual(list(house["rooms"]), list(read_house(text)["rooms"]))


def renamed(house, names):
    """A house with other names for its rooms, as the dict tells; targets that it does not tell stay."""
    def other(name):
        return names.get(name, name)

    rooms = {}
    for name, room in house["rooms"].items():
        if room[0] == "hours":
            room = (room[0], tuple((since, till, other(target)) for since, till, target in room[1]), other(room[2]))
        elif room[0] in ("menu", "names"):
            held = tuple((told, other(target)) for told, target in room[2])
            room = (room[0], room[1], held, (room[3][0], other(room[3][1])), (room[4][0], other(room[4][1])))
        rooms[other(name)] = room
    return {"first": other(house["first"]), "letters": list(house["letters"]), "rooms": rooms}


def long_house(many):
    """A house of eleven menus in a row, all alike but the last one, and an end; its states grow with the square of many."""
    names = list("abcdefghijk") + ["z"]
    rooms = {}
    for name, further in zip(names, names[1:]):
        rooms[name] = ("menu", "x", (("1", further),), (many, name), (many, further))
    rooms["z"] = ("end", "y")
    return house_of(rooms)


def deep_house():
    """A house where each of eleven rooms wants twelve keys of one word, and others lead back to its door."""
    names = list("abcdefghijk") + ["z"]
    rooms = {}
    for name, further in zip(names, names[1:]):
        words = [("a" * size + "b", name) for size in range(11)] + [("a" * 12, further)]
        rooms[name] = ("names", "x", tuple(sorted(words)), (2, name), (2, name))
    rooms["z"] = ("end", "x")
    return house_of(rooms, [("2", "a"), ("3", "b")])


def some_asking_room(chance, kind, letters, near):
    """A menu or a room of names that leads to these rooms alone."""
    if kind == "menu":
        keys = sorted(chance.sample(KEYS, chance.choice((1, 2, 4))), key=KEYS.index)
        held = tuple((key, chance.choice(near + ["back"])) for key in keys)
    else:
        held = tuple((word, chance.choice(near)) for word in sorted(parted_words(chance, letters, chance.choice((1, 2, 4)))))
    bounds = [(chance.choice((1, 1, 2, 3)), chance.choice(near)) for count in range(2)]
    return (kind, chance.choice("xy"), held, bounds[0], bounds[1])


def some_sound_house(chance):
    """A small house without faults, of rooms of all sorts, each of which leads to few others."""
    letters = some_letters(chance)
    names = chance.sample("abcdefgh", chance.choice((2, 3, 4, 5, 6)))
    rooms = {}
    for place, name in enumerate(names):
        kind = chance.choice(("menu", "menu", "names", "hours", "hand", "end"))
        near = chance.choice(([name], chance.sample(names, 2)))
        if place == 0 and chance.randrange(8):
            # From the first room on several others are come to, from each of these perhaps none.
            kind = chance.choice(("menu", "names"))
            near = names[1:4]
        if kind == "hours" and place + 1 < len(names):
            # Only rooms that stand further on, so that there is no ring.
            since = chance.randrange(24)
            rooms[name] = ("hours", ((since, 24, chance.choice(names[place + 1:])),), chance.choice(names[place + 1:]))
        elif kind in ("menu", "names"):
            rooms[name] = some_asking_room(chance, kind, letters, near)
        else:
            rooms[name] = (chance.choice(("hand", "end")), chance.choice("xy"))
    return house_of(rooms, letters, names[0])
