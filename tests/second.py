"""A second way to the answers, written from the document by other means; slow, and over whole tables."""

import itertools

from menutree.houses import show_house


def code(letters, word):
    """The code of a word, by a table of all letters."""
    table = {letter: key for key, held in letters for letter in held}
    return "".join(table[letter] for letter in word) if set(word) <= set(table) else None


def beginnings(letters, words):
    """The beginnings as [10] says them, word for word: each length is tried against each other word."""
    told = []
    for word in words:
        whole = code(letters, word) + "#"
        others = [code(letters, other) + "#" for other in words if other != word]
        starts = [whole[:size] for size in range(1, len(whole) + 1)]
        told.append((word, next(start for start in starts if not any(other.startswith(start) for other in others))))
    return told


def day(room):
    """For each hour of the day, the name to which a room of hours hands over: earlier spans painted over later ones."""
    names = [room[2]] * 24
    for since, till, name in reversed(room[1]):
        names[since:till] = [name] * (till - since)
    return names


def lost(house):
    """The names that are no rooms', told by the words of the rows of the house's text."""
    inside, told = "", []
    for row in show_house(house).split("\n"):
        parts = row.split(" ")
        if parts[0] in ("menu", "names", "hours", "hand", "end"):
            inside = parts[1]
        places = {"first": (1,), "menu": (3, 5), "names": (3, 5), "hours": (2,), "key": (2,), "name": (2,), "from": (3,)}
        for place in places.get(parts[0], ()):
            if parts[place] not in list(house["rooms"]) + ["back"]:
                told.append(("lost", inside, parts[place]))
    return told


def words(house):
    """The words without a code, then the twins."""
    wanting, twins = [], []
    for name, room in house["rooms"].items():
        if room[0] == "names":
            held = [word for word, target in room[2]]
            wanting += [("letter", name, word) for word in held if code(house["letters"], word) is None]
            for one, other in itertools.combinations(held, 2):
                if code(house["letters"], one) == code(house["letters"], other) is not None:
                    twins.append(("twins", name, one, other))
    return wanting + twins


def rings(house):
    """The rings, by all the rooms that can be come to from each."""
    told = []
    for hour in range(24):
        ways = {name: day(room)[hour] for name, room in house["rooms"].items() if room[0] == "hours"}
        for name in ways:
            come = []
            while (come[-1] if come else name) in ways and len(come) < 50:
                come.append(ways[come[-1] if come else name])
            if name in come:
                told.append(("ring", hour, name))
    return told


def faults(house):
    return lost(house) + words(house) + rings(house)


def come(house, hour, name):
    """The room that is come to by a name."""
    room = house["rooms"][name]
    return come(house, hour, day(room)[hour]) if room[0] == "hours" else name


def moves(house, name):
    """All that keys do in a room: by what is typed already and the key, a target, or what is typed then."""
    room = house["rooms"][name]
    if room[0] == "menu":
        return {("", key): ("to", target) for key, target in room[2]}
    table = {}
    for word, start in beginnings(house["letters"], [word for word, target in room[2]]):
        for size in range(1, len(start)):
            table[start[:size - 1], start[size - 1]] = ("typed", start[:size])
        table[start[:-1], start[-1]] = ("to", dict(room[2])[word])
    return table


def after(house, hour, state, sign):
    """The state behind a sign, kept as a dict that is written over."""
    now = dict(zip(("room", "back", "wrong", "waits", "typed"), state))
    room = house["rooms"][now["room"]]

    def come_by(name):
        now.update(room=come(house, hour, name), back=now["room"], wrong=0, waits=0, typed="")

    def one_more(what, bound):
        now[what] += 1
        now["typed"] = ""
        if now[what] == bound[0]:
            come_by(bound[1])

    if room[0] not in ("hand", "end"):
        what, where = moves(house, now["room"]).get((now["typed"], sign), ("wrong", ""))
        if where == "back" and what == "to":
            where = now["back"]
        if sign == "w":
            one_more("waits", room[4])
        elif what == "typed":
            now["typed"] = where
        elif where:
            come_by(where)
        else:
            one_more("wrong", room[3])
    return tuple(now.values())


def start(house, hour):
    """The state in which a call begins."""
    return (come(house, hour, house["first"]), "", 0, 0, "")


def walk(house, hour, row):
    """The states of a call."""
    told = [start(house, hour)]
    for sign in row:
        told.append(after(house, hour, told[-1], sign))
    return told


def heard(house, state):
    """What is heard in a state."""
    kind, text = house["rooms"][state[0]][:2]
    return (kind if kind in ("hand", "end") else "asked", text)


def rank(row):
    """A number for each row; the earlier one has the lesser: the rows counted as they come, in a scale of thirteen."""
    number = 0
    for sign in row:
        number = number * 13 + "0123456789*#w".index(sign) + 1
    return number


def least_rows(rows, lead):
    """By things and rows to them, all things that signs lead to, each with the least row; mended until it stays."""
    rows = dict(rows)
    nexts = {}
    mended = True
    while mended:
        mended = False
        for thing in list(reversed(rows)):
            if thing not in nexts:
                nexts[thing] = [(sign, lead(thing, sign)) for sign in "w#*9876543210"]
            for sign, come_by in nexts[thing]:
                row = rows[thing] + sign
                if come_by not in rows or rank(row) < rank(rows[come_by]):
                    rows[come_by] = row
                    mended = True
    return sorted(rows.items(), key=lambda pair: rank(pair[1]))


def places(house, hour):
    return least_rows({start(house, hour): ""}, lambda state, sign: after(house, hour, state, sign))


def outs(house, hour):
    """For each place, after how many signs the states that may be come to hold a hand or an end."""
    table = {state: {after(house, hour, state, sign) for sign in "0123456789*#w"} for state, row in places(house, hour)}
    told = []
    for state in table:
        seen, now, many = set(), {state}, 0
        while now and not any(heard(house, one)[0] != "asked" for one in now):
            seen |= now
            now = set().union(*(table[one] for one in now)) - seen
            many += 1
        told.append(many if now else None)
    return told


def traps(house, hour):
    return [place for place, many in zip(places(house, hour), outs(house, hour)) if many is None]


def ends(house, hour):
    """The hands and ends that are come to, told by their names and the least of all rows to them."""
    rows = {}
    for state, row in places(house, hour):
        if heard(house, state)[0] != "asked":
            rows[state[0]] = min(row, rows.get(state[0], row), key=rank)
    return sorted(rows.items(), key=lambda pair: rank(pair[1]))


def compare(house, other, hour):
    """All pairs, and only then whether there is one that is not heard alike."""
    def lead(pair, sign):
        return (after(house, hour, pair[0], sign), after(other, hour, pair[1], sign))

    pairs = [pair + (row,) for pair, row in least_rows({(start(house, hour), start(other, hour)): ""}, lead)]
    apart = [row for one, two, row in pairs if heard(house, one) != heard(other, two)]
    if apart:
        first = min(apart, key=rank)
        return ("apart", first, [pair for pair in pairs if rank(pair[2]) < rank(first)])
    return ("alike", pairs)


def partings(house, hour):
    """By each two places, as numbers, the first row by which they are not alike, or None; mended until it stays."""
    states = [state for state, row in places(house, hour)]
    nexts = [[states.index(after(house, hour, state, sign)) for sign in "0123456789*#w"] for state in states]
    rows = {}
    for one, two in itertools.product(range(len(states)), repeat=2):
        rows[one, two] = "" if heard(house, states[one]) != heard(house, states[two]) else None
    mended = True
    while mended:
        mended = False
        for one, two in rows:
            for sign, near, far in zip("0123456789*#w", nexts[one], nexts[two]):
                rest = rows[near, far]
                if rest is not None and (rows[one, two] is None or rank(sign + rest) < rank(rows[one, two])):
                    rows[one, two] = sign + rest
                    mended = True
    return rows


def classes(house, hour):
    """The classes, by the rows that part places."""
    rows = partings(house, hour)
    told = []
    for number in range(len(places(house, hour))):
        like = [told[other] for other in range(number) if rows[number, other] is None]
        told.append(like[0] if like else max(told, default=-1) + 1)
    return told
