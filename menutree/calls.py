"""One call: its states, how a sign leads from one to another, and what is heard.

A state is a tuple (room, back, wrong, waits, typed).
"""

from menutree.hours import come_to
from menutree.words import beginnings

WAIT = "w"

# By the kind of a room, what is heard there beside its text.
HEARD = {"menu": "asked", "names": "asked", "hand": "hand", "end": "end"}


def begin(H, hour):
    """The state in which a call begins."""
    return arrival(H, hour, H["first"], "")


def arrival(H, hour, name, back):
    """The state of one who comes to a room by its name from the room that is back then."""
    return (come_to(H, hour, name), back, 0, 0, "")


def step(H, hour, state, sign):
    """The state that a state becomes by a sign."""
    kind = H["rooms"][state[0]][0]
    if kind == "hand" or kind == "end":
        return state
    if sign == WAIT:
        return by_wait(H, hour, state)
    if kind == "menu":
        return by_menu_key(H, hour, state, sign)
    return by_names_key(H, hour, state, sign)


def by_menu_key(H, hour, state, key):
    """The state behind a key in a menu."""
    target = dict(H["rooms"][state[0]][2]).get(key, "")
    if target == "back":
        target = state[1]
    # A key that the menu has not and a way back to nowhere are the same here: a wrong key.
    if target == "":
        return by_wrong_key(H, hour, state)
    return arrival(H, hour, target, state[0])


def by_names_key(H, hour, state, key):
    """The state behind a key in a room of names."""
    names = dict(H["rooms"][state[0]][2])
    typed = state[4] + key
    # As no beginning begins another one, the first that fits settles it.
    for word, beginning in beginnings(H["letters"], list(names)):
        if beginning == typed:
            return arrival(H, hour, names[word], state[0])
        if beginning.startswith(typed):
            return (state[0], state[1], state[2], state[3], typed)
    return by_wrong_key(H, hour, state)


def by_wrong_key(H, hour, state):
    """The state behind a wrong key in a menu or a room of names."""
    bound = H["rooms"][state[0]][3]
    wrong = state[2] + 1
    if wrong == bound[0]:
        return arrival(H, hour, bound[1], state[0])
    return (state[0], state[1], wrong, state[3], "")


def by_wait(H, hour, state):
    """The state behind a wait in a menu or a room of names."""
    bound = H["rooms"][state[0]][4]
    waits = state[3] + 1
    if waits == bound[0]:
        return arrival(H, hour, bound[1], state[0])
    return (state[0], state[1], state[2], waits, "")


def walk(H, hour, row):
    """The states of a call from its begin on, one behind each sign of a row."""
    states = [begin(H, hour)]
    for sign in row:
        states.append(step(H, hour, states[-1], sign))
    return states


def heard(H, state):
    """What is heard in a state: the pair of asked, hand or end, and the room's text."""
    room = H["rooms"][state[0]]
    return (HEARD[room[0]], room[1])
