"""Pieces of a wood's row."""


def sums_of(text):
    """How many signs 1 there are, how many more than signs 0, and the least that this comes to behind a sign."""
    height = 0
    heights = []
    for sign in text:
        height += 1 if sign == "1" else -1
        heights.append(height)
    return (text.count("1"), height, min(heights, default=0))
