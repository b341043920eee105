"""What counts as a whole number, a bit, a place or a stretch, and how all else is refused.

The refusals never show what was handed in: it may be of any kind, also one that can't be written out.
"""

from tightwood.errors import NoBits, NoPlace


def is_whole(thing):
    return isinstance(thing, int) and not isinstance(thing, bool)


def is_within(thing, low, high):
    return is_whole(thing) and low <= thing <= high


def check_bit(bit):
    if not is_within(bit, 0, 1):
        raise NoBits("a bit is the whole number 0 or 1")


def check_place(place, greatest):
    if not is_within(place, 0, greatest):
        raise NoPlace("no such place")


def check_stretch(low, high, greatest):
    check_place(low, greatest)
    check_place(high, greatest)
    if low > high:
        raise NoPlace("the first place is above the second one")
