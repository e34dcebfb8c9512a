"""Hours: to which rooms the rooms of hours hand over."""


def handed(room, hour):
    """The name to which a room of hours hands over at an hour."""
    for since, till, name in room[1]:
        if since <= hour < till:
            return name
    return room[2]


def come_to(H, hour, name):
    """The name of the room that is come to at an hour by a name, through all rooms of hours on the way."""
    come = name
    # A house without faults has no ring of hours, so this ends.
    while H["rooms"][come][0] == "hours":
        come = handed(H["rooms"][come], hour)
    return come
