"""A second way to the answers, written from the document by other means; slow, and over whole tables."""

import itertools

from menutree.houses import show_house


def code(letters, word):
    """The code of a word, by a table of all letters."""
    table = {letter: key for key, held in letters for letter in held}
    return "".join(table[letter] for letter in word) if set(word) <= set(table) else None


def beginnings(letters, words):
    """The beginnings as [10] says them, word for word: each length is tried against each other word."""
    told = []
    for word in words:
        whole = code(letters, word) + "#"
        others = [code(letters, other) + "#" for other in words if other != word]
        starts = [whole[:size] for size in range(1, len(whole) + 1)]
        told.append((word, next(start for start in starts if not any(other.startswith(start) for other in others))))
    return told


def day(room):
    """For each hour of the day, the name to which a room of hours hands over: earlier spans painted over later ones."""
    names = [room[2]] * 24
    for since, till, name in reversed(room[1]):
        names[since:till] = [name] * (till - since)
    return names


def lost(house):
    """The names that are no rooms', told by the words of the rows of the house's text."""
    inside, told = "", []
    for row in show_house(house).split("\n"):
        parts = row.split(" ")
        if parts[0] in ("menu", "names", "hours", "hand", "end"):
            inside = parts[1]
        places = {"first": (1,), "menu": (3, 5), "names": (3, 5), "hours": (2,), "key": (2,), "name": (2,), "from": (3,)}
        for place in places.get(parts[0], ()):
            if parts[place] not in list(house["rooms"]) + ["back"]:
                told.append(("lost", inside, parts[place]))
    return told


def words(house):
    """The words without a code, then the twins."""
    wanting, twins = [], []
    for name, room in house["rooms"].items():
        if room[0] == "names":
            held = [word for word, target in room[2]]
            wanting += [("letter", name, word) for word in held if code(house["letters"], word) is None]
            for one, other in itertools.combinations(held, 2):
                if code(house["letters"], one) == code(house["letters"], other) is not None:
                    twins.append(("twins", name, one, other))
    return wanting + twins


def rings(house):
    """The rings, by all the rooms that can be come to from each."""
    told = []
    for hour in range(24):
        ways = {name: day(room)[hour] for name, room in house["rooms"].items() if room[0] == "hours"}
        for name in ways:
            come = []
            while (come[-1] if come else name) in ways and len(come) < 50:
                come.append(ways[come[-1] if come else name])
            if name in come:
                told.append(("ring", hour, name))
    return told


def faults(house):
    return lost(house) + words(house) + rings(house)


def come(house, hour, name):
    """The room that is come to by a name."""
    room = house["rooms"][name]
    return come(house, hour, day(room)[hour]) if room[0] == "hours" else name


def moves(house, name):
    """All that keys do in a room: by what is typed already and the key, a target, or what is typed then."""
    room = house["rooms"][name]
    if room[0] == "menu":
        return {("", key): ("to", target) for key, target in room[2]}
    table = {}
    for word, start in beginnings(house["letters"], [word for word, target in room[2]]):
        for size in range(1, len(start)):
            table[start[:size - 1], start[size - 1]] = ("typed", start[:size])
        table[start[:-1], start[-1]] = ("to", dict(room[2])[word])
    return table


def walk(house, hour, row):
    """The states of a call, kept as a dict that is written down behind each sign."""
    now = {}

    def come_by(name, back):
        now.update(room=come(house, hour, name), back=back, wrong=0, waits=0, typed="")

    def one_more(what, bound):
        now[what] += 1
        now["typed"] = ""
        if now[what] == bound[0]:
            come_by(bound[1], now["room"])

    come_by(house["first"], "")
    told = [tuple(now.values())]
    for sign in row:
        room = house["rooms"][now["room"]]
        if room[0] not in ("hand", "end"):
            what, where = moves(house, now["room"]).get((now["typed"], sign), ("wrong", ""))
            if where == "back" and what == "to":
                where = now["back"]
            if sign == "w":
                one_more("waits", room[4])
            elif what == "typed":
                now["typed"] = where
            elif where:
                come_by(where, now["room"])
            else:
                one_more("wrong", room[3])
        told.append(tuple(now.values()))
    return told
