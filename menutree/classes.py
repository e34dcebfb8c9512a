"""Places that are alike: their classes, and the first rows by which others are not."""

from menutree.calls import heard
from menutree.reach import next_places, places
from menutree.signs import SIGNS


def classes(H, hour):
    """For each place the number of its class; places that are alike have the same one."""
    found = places(H, hour)
    return classings(H, found, next_places(H, hour, found))[-1]


def classings(H, found, nexts):
    """Classes by rows of no sign, by rows of up to one sign, of up to two, and so on until they stay as they are."""
    told = [numbered([heard(H, state) for state, row in found])]
    finer = finer_classes(told[-1], nexts)
    while finer != told[-1]:
        told.append(finer)
        finer = finer_classes(finer, nexts)
    return told


def finer_classes(numbers, nexts):
    """The classes by rows that are one sign longer than those by which the numbers are told."""
    marks = []
    for number, following in zip(numbers, nexts):
        marks.append((number, tuple([numbers[place] for place in following])))
    return numbered(marks)


def numbered(marks):
    """The marks as numbers from 0 on, each mark that has not come before by the next number."""
    numbers = {}
    for mark in marks:
        numbers.setdefault(mark, len(numbers))
    return [numbers[mark] for mark in marks]


def parting(H, hour, one, other):
    """The first row by which two places, told by their numbers, are not alike, or None."""
    found = places(H, hour)
    nexts = next_places(H, hour, found)
    told = classings(H, found, nexts)
    if told[-1][one] == told[-1][other]:
        return None
    size = 0
    while told[size][one] == told[size][other]:
        size += 1
    return first_parting(told[:size], nexts, one, other)


def first_parting(told, nexts, one, other):
    """The first row by which two places are not alike; it has as many signs as there are classings told."""
    row = ""
    here = one
    there = other
    for numbers in reversed(told):
        # No shorter row parts them, so the first sign to places that the rows left over part is the right one.
        parted = [numbers[near] != numbers[far] for near, far in zip(nexts[here], nexts[there])]
        place = parted.index(True)
        row += SIGNS[place]
        here = nexts[here][place]
        there = nexts[there][place]
    return row
