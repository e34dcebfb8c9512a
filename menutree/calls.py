"""One call: its states, how a sign leads from one to another, and what is heard.

A state is a tuple (room, back, wrong, waits, typed).
"""

from menutree.hours import come_to
from menutree.words import beginnings

WAIT = "w"

# By the kind of a room, what is heard there beside its text.
HEARD = {"menu": "asked", "names": "asked", "hand": "hand", "end": "end"}


def begin(H, hour):
    """The state in which a call begins."""
    return arrival(H, hour, H["first"], "")


def arrival(H, hour, name, back):
    """The state of one who comes to a room by its name from the room that is back then."""
    return (come_to(H, hour, name), back, 0, 0, "")


def step(H, hour, state, sign):
    """The state that a state becomes by a sign."""
    return follow(H, hour, room_ways(H, state[0]), state, sign)


def house_ways(H):
    """For each room by its name, where the keys typed there lead; made once, where many signs are to be followed."""
    ways = {}
    for name in H["rooms"]:
        ways[name] = room_ways(H, name)
    return ways


def room_ways(H, name):
    """By the keys typed in a room, the target to which they lead, or None where more are to be typed."""
    room = H["rooms"][name]
    if room[0] == "menu":
        return dict(room[2])
    if room[0] == "names":
        return names_ways(H["letters"], dict(room[2]))
    return {}


def names_ways(letters, names):
    """By the keys typed in a room of names, the room of the word that they tell, or None where they tell none yet."""
    ways = {}
    for word, beginning in beginnings(letters, list(names)):
        for size in range(1, len(beginning)):
            ways[beginning[:size]] = None
        # No beginning begins another one, so nothing is written over here.
        ways[beginning] = names[word]
    return ways


def follow(H, hour, ways, state, sign):
    """The state that a state becomes by a sign, the ways being those of its room."""
    kind = H["rooms"][state[0]][0]
    if kind == "hand" or kind == "end":
        return state
    if sign == WAIT:
        return by_wait(H, hour, state)
    return by_key(H, hour, ways, state, sign)


def by_key(H, hour, ways, state, key):
    """The state behind a key in a menu or a room of names."""
    typed = state[4] + key
    if typed not in ways:
        return by_wrong_key(H, hour, state)
    target = state[1] if ways[typed] == "back" else ways[typed]
    if target is None:
        return (state[0], state[1], state[2], state[3], typed)
    # Where the caller was nowhere before, there is no way back.
    if target == "":
        return by_wrong_key(H, hour, state)
    return arrival(H, hour, target, state[0])


def by_wrong_key(H, hour, state):
    """The state behind a wrong key in a menu or a room of names."""
    bound = H["rooms"][state[0]][3]
    wrong = state[2] + 1
    if wrong == bound[0]:
        return arrival(H, hour, bound[1], state[0])
    return (state[0], state[1], wrong, state[3], "")


def by_wait(H, hour, state):
    """The state behind a wait in a menu or a room of names."""
    bound = H["rooms"][state[0]][4]
    waits = state[3] + 1
    if waits == bound[0]:
        return arrival(H, hour, bound[1], state[0])
    return (state[0], state[1], state[2], waits, "")


def walk(H, hour, row):
    """The states of a call from its begin on, one behind each sign of a row."""
    return walk_on(H, hour, begin(H, hour), row)


def walk_on(H, hour, state, row):
    """The states of a call from a state on, one behind each sign of a row."""
    ways = house_ways(H)
    states = [state]
    for sign in row:
        states.append(follow(H, hour, ways[states[-1][0]], states[-1], sign))
    return states


def heard(H, state):
    """What is heard in a state: the pair of asked, hand or end, and the room's text."""
    room = H["rooms"][state[0]]
    return (HEARD[room[0]], room[1])
