"""The desk: houses by names and calls by numbers, told and asked by rows of text."""

from menutree.calls import begin, heard, walk_on
from menutree.classes import classes
from menutree.errors import Faulty, NoCall, NoHour, NoName, NoRow, NoSigns
from menutree.faults import faults
from menutree.houses import read_house, show_house
from menutree.pairs import compare
from menutree.reach import ends, traps
from menutree.signs import is_name, is_row, number_within
from menutree.words import beginnings

# By the first word of a row, what its other words are.
FORMS = {
    "house": ("new",),
    "drop": ("house",),
    "show": ("house",),
    "call": ("house", "hour"),
    "press": ("call", "signs"),
    "hang": ("call",),
    "row": ("house", "hour", "out"),
    "least": ("house", "hour"),
    "traps": ("house", "hour"),
    "compare": ("house", "house", "hour"),
    "names": ("house", "names"),
}

# By the words that tell a room, of which kinds it may be.
ROOM_FORMS = {"out": ("hand", "end"), "names": ("names",)}


class Desk:
    """A desk; calls are kept by their numbers as texts, each a triple (house, hour, state)."""

    def __init__(self):
        self.houses = {}
        self.calls = {}
        self.greatest = 0

    def say(self, row):
        """The answer to a row, or its refusal, which changes nothing."""
        words = words_of(row)
        values = self.values_of(words)
        if words[0] == "house":
            return self.keep_house(words[1], row.partition("\n")[2])
        if words[0] == "drop":
            self.houses.pop(words[1])
            return "ok"
        if words[0] == "call":
            return self.begin_call(values[0], values[1])
        if words[0] == "press":
            return self.press(words[1], words[2])
        if words[0] == "hang":
            self.calls.pop(words[1])
            return "ok"
        return answer(words[0], values)

    def values_of(self, words):
        """What the words behind the first one stand for; the first one that is refused is the leftmost."""
        values = []
        for form, word in zip(FORMS[words[0]], words[1:]):
            values.append(self.value_of(form, word, values))
        return values

    def value_of(self, form, word, values):
        """What a word stands for, behind those with these values."""
        if form == "house":
            return self.house_by(word)
        if form == "hour":
            return hour_of(word)
        if form in ROOM_FORMS:
            return room_of(values[0], word, ROOM_FORMS[form])
        if form == "new" and not is_name(word):
            raise NoName("no name for a house")
        if form == "call" and word not in self.calls:
            raise NoCall("no number of a call that goes on")
        if form == "signs" and not is_row(word):
            raise NoSigns("no row of signs")
        return word

    def house_by(self, name):
        """The house that stands by a name."""
        if name not in self.houses:
            raise NoName("no house stands by this name")
        return self.houses[name]

    def keep_house(self, name, text):
        """Keep the house of a text by a name."""
        house = read_house(text)
        told = faults(house)
        if told:
            raise Faulty(told)
        self.houses[name] = house
        return "ok"

    def begin_call(self, house, hour):
        """Begin a call: its number, and what is heard."""
        state = begin(house, hour)
        self.greatest += 1
        number = str(self.greatest)
        # A house that is kept is never changed, only put aside, so the call's stays as it is now.
        self.calls[number] = (house, hour, state)
        return number + " " + heard_text(house, state)

    def press(self, number, signs):
        """Let a call go on by signs: what is heard then."""
        call = self.calls[number]
        state = walk_on(call[0], call[1], call[2], signs)[-1]
        self.calls[number] = (call[0], call[1], state)
        return heard_text(call[0], state)


def words_of(row):
    """The words of a row; NoRow where it is none that a desk knows."""
    if not isinstance(row, str):
        raise NoRow("no text")
    words = row.split(" ")
    ahead = row.partition("\n")[0]
    if ahead.split(" ")[0] == "house":
        # Without a row end there is no text of a house, not even one without signs.
        words = ahead.split(" ") if ahead != row else []
    if not words or words[0] not in FORMS or len(words) != len(FORMS[words[0]]) + 1:
        raise NoRow("no row that a desk knows")
    return words


def hour_of(word):
    """The hour that a word writes."""
    hour = number_within(word, 0, 23)
    if hour is None:
        raise NoHour("no hour")
    return hour


def room_of(house, word, kinds):
    """The name of a room of a house that is of one of these kinds."""
    if word not in house["rooms"] or house["rooms"][word][0] not in kinds:
        raise NoName("no such room stands by this name")
    return word


def answer(kind, values):
    """The answer to a row by which nothing is changed."""
    house = values[0]
    if kind == "show":
        return show_house(house)
    if kind == "row":
        return out_text(house, values[1], values[2])
    if kind == "least":
        return str(len(set(classes(house, values[1]))))
    if kind == "traps":
        return traps_text(house, values[1])
    if kind == "compare":
        return compare_text(house, values[1], values[2])
    return names_text(house, values[1])


def heard_text(house, state):
    """What is heard in a state, as text."""
    return " ".join(heard(house, state))


def row_text(row):
    """A row of signs, as text that is never without signs."""
    return "-" if row == "" else row


def out_text(house, hour, name):
    """The first row to a hand or an end, or `none`."""
    rows = dict(ends(house, hour))
    return row_text(rows[name]) if name in rows else "none"


def traps_text(house, hour):
    """The rows of the traps, or `none`."""
    rows = [row_text(row) for state, row in traps(house, hour)]
    return " ".join(rows) if rows else "none"


def compare_text(house, other, hour):
    """Whether two houses are alike at an hour, or by which row they are apart."""
    told = compare(house, other, hour)
    return "alike" if told[0] == "alike" else "apart " + row_text(told[1])


def names_text(house, name):
    """The beginnings of the words of a room of names."""
    words = [word for word, target in house["rooms"][name][2]]
    return " ".join([f"{word}={beginning}" for word, beginning in beginnings(house["letters"], words)])
