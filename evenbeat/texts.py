"""Rows as texts: x for a stroke, . for a rest."""

from evenbeat.errors import NoRow
from evenbeat.laying import MOST_PLACES_OF_A_ROW

STROKE_SIGN = "x"
REST_SIGN = "."


def shown(row):
    return "".join([STROKE_SIGN if place == 1 else REST_SIGN for place in row])


def place_shown_as(sign):
    if sign == STROKE_SIGN:
        return 1
    if sign == REST_SIGN:
        return 0
    raise NoRow("a row is shown by x and . alone")


def read(text):
    if len(text) < 1 or len(text) > MOST_PLACES_OF_A_ROW:
        raise NoRow("a row is shown by 1 to 120 signs")
    return [place_shown_as(sign) for sign in text]
