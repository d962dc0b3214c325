"""The row by groups: strokes and rests joined until the groups are all of one kind."""

from evenbeat.laying import check_wheel_of_row


# The groups of one kind are all alike, so one of them and how often it is there tell them all.
def grouped(strokes, places):
    check_wheel_of_row(strokes, places)
    first = [1]
    firsts = strokes
    second = [0]
    seconds = places - strokes
    while firsts > 0 and seconds > 0:
        joined = first + second
        both = min(firsts, seconds)
        left_over = first if firsts > seconds else second
        seconds = firsts + seconds - 2 * both
        second = left_over
        first = joined
        firsts = both
    return first * firsts + second * seconds
