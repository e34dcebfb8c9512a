"""What can be reached: the places of a house, the ways out from them, and the hands and ends that are come to."""

from menutree.calls import begin, follow, heard, house_ways
from menutree.signs import SIGNS


def earlier(one, other):
    """Whether one row is earlier than another one."""
    return rank(one) < rank(other)


def rank(row):
    """By what rows are put in order: their lengths, then their signs."""
    return (len(row), [SIGNS.index(sign) for sign in row])


def first_rows(start, lead, is_last):
    """The pairs of a thing and the first row that leads to it from the start, in the order of these rows.

    lead tells to what a sign leads from a thing; behind the first thing that is a last one no more are told.
    """
    known = {start: True}
    found = [(start, "")]
    done = 0
    # Things are left in the order of their rows and the signs tried in theirs, so each thing is found by its first row.
    while done < len(found) and not is_last(found[-1][0]):
        near = found[done]
        done += 1
        for sign in SIGNS:
            thing = lead(near[0], sign)
            if thing not in known:
                known[thing] = True
                found.append((thing, near[1] + sign))
                if is_last(thing):
                    break
    return found


def places(H, hour):
    """The pairs of a state that can be reached and the first row that leads to it, in the order of these rows."""
    ways = house_ways(H)
    return first_rows(
        begin(H, hour),
        lambda state, sign: follow(H, hour, ways[state[0]], state, sign),
        lambda state: False,
    )


def next_places(H, hour, found):
    """For each of the places found, the numbers of those to which the signs lead, in the order of the signs."""
    ways = house_ways(H)
    numbers = {}
    for number, place in enumerate(found):
        numbers[place[0]] = number
    nexts = []
    for state, row in found:
        nexts.append([numbers[follow(H, hour, ways[state[0]], state, sign)] for sign in SIGNS])
    return nexts


def is_out(H, state):
    """Whether a state is a hand or an end."""
    return heard(H, state)[0] != "asked"


def outs(H, hour):
    """For each place, how few signs lead from it to a hand or an end, or None where none do."""
    return outs_of(H, hour, places(H, hour))


def outs_of(H, hour, found):
    """The outs of the places found."""
    counts = [0 if is_out(H, state) else None for state, row in found]
    behind = places_behind(next_places(H, hour, found))
    reached = [number for number, count in enumerate(counts) if count == 0]
    done = 0
    # From the outs backwards, the near ones first, so the first count that a place gets is its least.
    while done < len(reached):
        near = reached[done]
        done += 1
        for number in behind[near]:
            if counts[number] is None:
                counts[number] = counts[near] + 1
                reached.append(number)
    return counts


def places_behind(nexts):
    """For each place, the numbers of those from which a sign leads to it."""
    behind = [[] for following in nexts]
    for number, following in enumerate(nexts):
        for place in following:
            behind[place].append(number)
    return behind


def traps(H, hour):
    """The places from which nobody comes to a hand or an end."""
    found = places(H, hour)
    return [place for place, count in zip(found, outs_of(H, hour, found)) if count is None]


def ends(H, hour):
    """The pairs of a hand's or an end's name and the first row that leads to it, in the order of these rows."""
    rows = {}
    for state, row in places(H, hour):
        if is_out(H, state):
            rows.setdefault(state[0], row)
    return list(rows.items())
