"""What counts as a whole number, a bit, a place, a stretch or a knot, and how all else is refused.

The refusals never show what was handed in: it may be of any kind, also one that can't be written out.
"""

from tightwood.errors import NoBits, NoKnot, NoPlace


def is_whole(thing):
    return isinstance(thing, int) and not isinstance(thing, bool)


def is_within(thing, low, high):
    return is_whole(thing) and low <= thing <= high


def check_bit(bit):
    if not is_within(bit, 0, 1):
        raise NoBits("a bit is the whole number 0 or 1")


def check_place(place, greatest):
    if not is_within(place, 0, greatest):
        raise NoPlace("no such place")


def check_stretch(low, high, greatest):
    check_place(low, greatest)
    check_place(high, greatest)
    if low > high:
        raise NoPlace("the first place is above the second one")


def check_from_nought(number):
    if not is_whole(number) or number < 0:
        raise NoPlace("no whole number from 0 on")


def check_knot(k, many_knots):
    if not is_within(k, 0, many_knots - 1):
        raise NoKnot("no such knot")
