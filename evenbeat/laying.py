"""Strokes laid on a wheel: where they stand, and how many stand ahead of a place."""

from evenbeat.errors import NoStroke, NoWheel

MOST_PLACES_OF_A_ROW = 120


# The words of the refusals hold no numbers: Python itself refuses to write out very long ones.
def check_wheel(strokes, places):
    if places < 1:
        raise NoWheel("a wheel has at least one place")
    if strokes < 0 or strokes > places:
        raise NoWheel("a wheel has from 0 strokes to as many as it has places")


def check_wheel_of_row(strokes, places):
    check_wheel(strokes, places)
    if places > MOST_PLACES_OF_A_ROW:
        raise NoWheel("a row has no more than 120 places")


def ahead(strokes, places, at):
    check_wheel(strokes, places)
    return strokes * at // places


def has_stroke(strokes, places, at):
    return ahead(strokes, places, at + 1) > ahead(strokes, places, at)


def place_of(strokes, places, number):
    check_wheel(strokes, places)
    if strokes == 0:
        raise NoStroke("a wheel of rests alone has no stroke to tell the place of")
    # The stroke stands at the last place ahead of which no more than number stand: the greatest at
    # with strokes * at < places * (number + 1). The less 1 makes that "not above", which // answers.
    return (places * (number + 1) - 1) // strokes


# Kept apart from laid, since a wheel that is only looked at is not bound to 120 places.
def whole_round(strokes, places):
    return [1 if has_stroke(strokes, places, at) else 0 for at in range(places)]


def laid(strokes, places):
    check_wheel_of_row(strokes, places)
    return whole_round(strokes, places)
