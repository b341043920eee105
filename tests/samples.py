"""Rows and wrong things that several tests share."""

NO_WHOLE_NUMBERS = [True, False, None, "", "0", "1", [], [0], (), (0,), {}, {0: 0}, 0.0, 1.0, b"0", set(), object()]
# Some have more figures than Python writes out, so a refusal that shows them fails.
FAR_OUT = [-1, -2, -33, 2 ** 64, 10 ** 5000, -(10 ** 5000)]


def mixed_row(size, seed=1):
    """A text of 0 and 1 without a pattern, always the same one."""
    signs = []
    state = seed
    for place in range(size):
        state = (state * 1103515245 + 12345) % 2 ** 31
        signs.append("1" if (state >> 16) & 1 else "0")
    return "".join(signs)


def rows_of(size):
    """Rows of a size that differ in how their bits are spread."""
    rows = ["0" * size, "1" * size, mixed_row(size), mixed_row(size, 7)]
    rows.append(("01" * size)[:size])
    rows.append(("0" * 300 + "1") * (size // 301) + "0" * (size % 301))
    rows.append(("1" * 300 + "0") * (size // 301) + "1" * (size % 301))
    if size > 0:
        rows.append("1" + "0" * (size - 1))
        rows.append("0" * (size - 1) + "1")
        rows.append("1" * (size - 1) + "0")
    return rows


def no_knots(many):
    """Nothing of these is a knot of a wood of so many."""
    return NO_WHOLE_NUMBERS + FAR_OUT + [many, many + 1, many + 4000]


# Nothing of these is a whole number from 0 on.
NO_NUMBERS = NO_WHOLE_NUMBERS + [-1, -2, -(10 ** 5000)]
