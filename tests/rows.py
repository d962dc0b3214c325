"""Rows to try, and the document's points reckoned plainly, without the program."""

from itertools import product
from random import Random

BIG = 10 ** 59 + 7
MOST = 120


def row_of(text):
    return [{"x": 1, ".": 0}[sign] for sign in text]


def every_row(places):
    return [list(row) for row in product((0, 1), repeat=places)]


def rows_to(most_places):
    return [row for places in range(1, most_places + 1) for row in every_row(places)]


def drawn_rows(seed, number):
    """Rows of all lengths to 120, thin and thick ones; the same ones at every run."""
    draw = Random(seed)
    rows = []
    for turn in range(number):
        places = MOST if turn == 0 else draw.randint(1, MOST)
        share = draw.randint(0, 100)
        rows.append([1 if draw.randint(1, 100) <= share else 0 for at in range(places)])
    return rows


def drawn_wheels(seed, number):
    draw = Random(seed)
    wheels = [(strokes, MOST) for strokes in (0, 1, 7, 60, 119, MOST)]
    for turn in range(number):
        places = draw.randint(41, MOST)
        wheels.append((draw.randint(0, places), places))
    return wheels


def plain_laid(strokes, places):
    return [strokes * (at + 1) // places - strokes * at // places for at in range(places)]


def plain_count(row, first, width):
    return sum(row[(first + step) % len(row)] for step in range(width))


def plain_counts(row, width):
    return [plain_count(row, first, width) for first in range(len(row))]


def plain_even(row):
    of_widths = [plain_counts(row, width) for width in range(len(row) + 1)]
    return all(abs(one - other) <= 1 for told in of_widths for one in set(told) for other in set(told))


def plain_fault(row):
    for width in range(len(row) + 1):
        told = plain_counts(row, width)
        if max(told) - min(told) >= 2:
            most = [first for first in range(len(row)) if told[first] == max(told)]
            least = [first for first in range(len(row)) if told[first] == min(told)]
            return width, most[0], least[0]
    return None


def plain_turned(row, by):
    by = by % len(row)
    return row[by:] + row[:by]


def plain_start(row):
    wanted = plain_laid(sum(row), len(row))
    return min(by for by in range(len(row)) if plain_turned(row, by) == wanted)


def plain_grouped(strokes, places):
    """Every group as a list of its own, joined one by one."""
    first = [[1] for at in range(strokes)]
    second = [[0] for at in range(places - strokes)]
    while first and second:
        joined = []
        while first and second:
            joined.append(first.pop() + second.pop())
        first, second = joined, first + second
    return [place for group in first + second for place in group]
