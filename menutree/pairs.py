"""Two houses: whether they are alike at an hour, shown by pairs of states."""

from menutree.calls import begin, follow, heard, house_ways
from menutree.reach import first_rows


def compare(H, G, hour):
    """("alike", PAIRS), or ("apart", ROW, PAIRS) with the first row by which the houses are not alike."""
    ways = house_ways(H)
    others = house_ways(G)

    def lead(pair, sign):
        state = follow(H, hour, ways[pair[0][0]], pair[0], sign)
        return (state, follow(G, hour, others[pair[1][0]], pair[1], sign))

    def is_apart(pair):
        return heard(H, pair[0]) != heard(G, pair[1])

    found = first_rows((begin(H, hour), begin(G, hour)), lead, is_apart)
    pairs = [(pair[0], pair[1], row) for pair, row in found]
    last = found[-1]
    if is_apart(last[0]):
        return ("apart", last[1], pairs[:-1])
    return ("alike", pairs)
