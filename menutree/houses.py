"""Houses as text: each house has just one text, which is shown, and read back."""

from menutree.errors import NoHouse
from menutree.signs import KEYS, is_key, is_letters, is_name, is_plain, is_word, number_within

MOST_ROOMS = 12
MOST_BENEATH = 12

# By the first word of a row, what stands behind it.
FIELDS = {
    "first": ("name",),
    "letters": ("letters key", "letters"),
    "menu": ("name", "many", "name", "many", "name", "text"),
    "key": ("key", "target"),
    "names": ("name", "many", "name", "many", "name", "text"),
    "name": ("word", "name"),
    "hours": ("name", "name"),
    "from": ("from", "till", "name"),
    "hand": ("name", "text"),
    "end": ("name", "text"),
}

ROOM_KINDS = ("menu", "names", "hours", "hand", "end")

# By the kind of a room, the first word of the rows beneath it.
BENEATH = {"menu": "key", "names": "name", "hours": "from"}


def show_house(H):
    """The text of a house."""
    rows = [row_text("first", [H["first"]])]
    for pair in H["letters"]:
        rows.append(row_text("letters", pair))
    for name, room in H["rooms"].items():
        rows.append(row_text(room[0], room_values(name, room)))
        for values in held_beneath(room):
            rows.append(row_text(BENEATH[room[0]], values))
    return "\n".join(rows)


def row_text(kind, values):
    """A row by its first word and the values behind it."""
    return " ".join([kind] + [str(value) for value in values])


def room_values(name, room):
    """The values of a room's own row, in the order of the row."""
    if room[0] == "hours":
        return [name, room[2]]
    if room[0] in BENEATH:
        return [name, room[3][0], room[3][1], room[4][0], room[4][1], room[1]]
    return [name, room[1]]


def held_beneath(room):
    """What a room holds that is written in rows beneath its own."""
    if room[0] == "hours":
        return room[1]
    return room[2] if room[0] in BENEATH else ()


def read_house(text):
    """The house of a text; NoHouse where the text is not the text of one."""
    if not isinstance(text, str):
        raise NoHouse(1)
    rows = text.split("\n")
    house = {"first": "", "letters": [], "rooms": {}}
    for number, row in enumerate(rows, start=1):
        if not take_row(house, row):
            raise NoHouse(number)
    if not house["rooms"]:
        raise NoHouse(len(rows) + 1)
    wordless = wordless_row(rows)
    if wordless > 0:
        raise NoHouse(wordless)
    return house


def wordless_row(rows):
    """The number of the first row of a room of names without a word, or 0; each row may stand where it does."""
    for number, row in enumerate(rows, start=1):
        below = rows[number] if number < len(rows) else ""
        if row.startswith("names ") and not below.startswith("name "):
            return number
    return 0


def take_row(house, row):
    """Put a row into the house that is being read; False where it is no row or may not stand there."""
    kind = row.partition(" ")[0]
    values = row_values(kind, row)
    # Every house begins by `first`, and no other row is one.
    if values is None or (kind == "first") != (house["first"] == ""):
        return False
    if kind == "first":
        house["first"] = values[0]
        return True
    if kind == "letters":
        return take_letters(house, values)
    if kind in ROOM_KINDS:
        return take_room(house["rooms"], kind, values)
    return take_beneath(house["rooms"], kind, values)


def row_values(kind, row):
    """The values behind the first word of a row, or None where it is no row of a house."""
    if kind not in FIELDS:
        return None
    fields = FIELDS[kind]
    # Words too many stay in the last part, and of all fields only a text may hold blanks.
    parts = row.split(" ", len(fields))[1:]
    if len(parts) < len(fields):
        return None
    values = [field_value(field, part) for field, part in zip(fields, parts)]
    return None if None in values else values


def field_value(field, part):
    """The value of a field that is written so, or None where it may not be."""
    if field == "many":
        return number_within(part, 1, 9)
    if field == "from":
        return number_within(part, 0, 23)
    if field == "till":
        return number_within(part, 1, 24)
    return part if fits(field, part) else None


def fits(field, part):
    """Whether a field that holds signs, not a number, may be written so."""
    if field == "name":
        return is_name(part)
    if field == "target":
        return is_name(part) or part == "back"
    if field == "word":
        return is_word(part)
    if field == "key":
        return is_key(part)
    if field == "letters key":
        return is_key(part) and part != "#"
    if field == "letters":
        return is_letters(part, 26)
    return is_plain(part)


def take_letters(house, values):
    """Put letters behind those of the house, unless they may not stand there."""
    if house["rooms"] or not is_rising("letters", house["letters"], values):
        return False
    told = "".join([letters for key, letters in house["letters"]]) + values[1]
    if any([told.count(letter) > 1 for letter in values[1]]):
        return False
    house["letters"].append((values[0], values[1]))
    return True


def take_room(rooms, kind, values):
    """Put a room behind the others, unless it may not stand there."""
    if len(rooms) == MOST_ROOMS or values[0] in rooms:
        return False
    rooms[values[0]] = bare_room(kind, values)
    return True


def bare_room(kind, values):
    """The room of a row, with nothing beneath it yet."""
    if kind == "hours":
        return (kind, (), values[1])
    if kind in BENEATH:
        return (kind, values[5], (), (values[1], values[2]), (values[3], values[4]))
    return (kind, values[1])


def take_beneath(rooms, kind, values):
    """Put a row into the last of the rooms, unless it may not stand there."""
    if not rooms:
        return False
    name = list(rooms)[-1]
    room = rooms[name]
    if BENEATH.get(room[0]) != kind:
        return False
    held = held_beneath(room)
    if len(held) == MOST_BENEATH or not is_rising(kind, held, values):
        return False
    rooms[name] = with_held(room, held + (tuple(values),))
    return True


def with_held(room, held):
    """A room as it is, but with these things beneath it."""
    if room[0] == "hours":
        return (room[0], held, room[2])
    return (room[0], room[1], held, room[3], room[4])


def is_rising(kind, held, values):
    """Whether values may follow what is held: keys and words rise, a span rises in itself alone."""
    if kind == "from":
        return values[0] < values[1]
    if not held:
        return True
    if kind == "name":
        return held[-1][0] < values[0]
    return KEYS.index(held[-1][0]) < KEYS.index(values[0])
