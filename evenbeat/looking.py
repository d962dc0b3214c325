"""Looking at a row: its stretches, whether it is even, and how it reads from elsewhere."""

from evenbeat.errors import Uneven
from evenbeat.laying import whole_round


def counts(row, width):
    places = len(row)
    within = sum([row[at % places] for at in range(width)])
    told = []
    for at in range(places):
        told.append(within)
        # The next stretch lacks the place that this one begins at and has the one behind its end.
        within = within - row[at] + row[(at + width) % places]
    return told


# The width of the whole wheel is left out: each stretch of it has every stroke.
def fault(row):
    for width in range(len(row)):
        told = counts(row, width)
        most = max(told)
        least = min(told)
        if most - least > 1:
            return (width, told.index(most), told.index(least))
    return None


def turned(row, by=1):
    places = len(row)
    return [row[(at + by) % places] for at in range(places)]


def mirrored(row):
    return list(reversed(row))


def swapped(row):
    return [1 - place for place in row]


def start(row):
    found = fault(row)
    if found is not None:
        raise Uneven(found[0], found[1], found[2])
    wanted = whole_round(sum(row), len(row))
    by = 0
    # Every even row is a laid row turned, so this ends within one round of the wheel.
    while turned(row, by) != wanted:
        by = by + 1
    return by
