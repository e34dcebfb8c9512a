"""Faults: names that are no rooms', words that keys can't tell or part, and rings of hours."""

from menutree.hours import handed
from menutree.words import code_of

HOURS_OF_A_DAY = 24


def faults(H):
    """The list of a house's faults."""
    return lost_names(H) + words_without_code(H) + twin_words(H) + rings(H)


def lost_names(H):
    """A fault for each time that a name is told which is no room's, in the order of the text."""
    named = [("", H["first"])]
    for name, room in H["rooms"].items():
        named.extend([(name, target) for target in targets_in(room)])
    return [("lost", name, target) for name, target in named if target != "back" and target not in H["rooms"]]


def targets_in(room):
    """The targets that a room tells, in the order of the text: its own row ahead of those beneath it."""
    if room[0] == "hours":
        return [room[2]] + [name for since, till, name in room[1]]
    if room[0] in ("menu", "names"):
        return [room[3][1], room[4][1]] + [target for told, target in room[2]]
    return []


def coded_words(H, room):
    """The pairs of a word and its code, or None, of a room of names; of another room none."""
    if room[0] != "names":
        return []
    return [(word, code_of(H["letters"], word)) for word, name in room[2]]


def words_without_code(H):
    """A fault for each word that has no code."""
    told = []
    for name, room in H["rooms"].items():
        told.extend([("letter", name, word) for word, code in coded_words(H, room) if code is None])
    return told


def twin_words(H):
    """A fault for each two words of a room that have the same code."""
    told = []
    for name, room in H["rooms"].items():
        coded = [pair for pair in coded_words(H, room) if pair[1] is not None]
        told.extend([("twins", name, word, other) for word, other in twins_among(coded)])
    return told


def twins_among(coded):
    """The pairs of words with the same code, by the first, then by the second one."""
    pairs = []
    for place, one in enumerate(coded):
        pairs.extend([(one[0], other[0]) for other in coded[place + 1:] if other[1] == one[1]])
    return pairs


def rings(H):
    """A fault for each hour and each room of hours that is in a ring then."""
    told = []
    for hour in range(HOURS_OF_A_DAY):
        told.extend([("ring", hour, name) for name in H["rooms"] if is_in_ring(H["rooms"], hour, name)])
    return told


def is_in_ring(rooms, hour, name):
    """Whether one who is handed over from a room of hours, again and again, comes to it again."""
    come = name
    # Who has not come to it again in as many steps as there are rooms is in a ring that it only leads into.
    for count in range(len(rooms)):
        if come not in rooms or rooms[come][0] != "hours":
            return False
        come = handed(rooms[come], hour)
        if come == name:
            return True
    return False
