"""From row to row: each of the three rows of a wood is led to each other one, without the plain wood."""

from tightwood.counts import running_sums
from tightwood.errors import NoWood
from tightwood.woods import MOST_KNOTS, counted_row


def check_signs(row, begin):
    """The height at the begin tells the kind: 0 by opening, 1 of the others, which end where they first come to 0."""
    if not isinstance(row, str):
        raise NoWood(0)
    height = begin
    knots = 0
    for place, sign in enumerate(row):
        opens = sign == "1" and height >= begin and knots < MOST_KNOTS
        closes = sign == "0" and height > 0
        if not opens and not closes:
            raise NoWood(place)
        height += 1 if opens else -1
        knots += 1 if opens else 0
    if height > 0:
        raise NoWood(len(row))


def groups_of(row):
    """Of a row by levels or by children counted: how many signs 1 stand ahead of each 0."""
    return [len(group) for group in row.split("0")[:-1]]


def open_to_levels(row):
    check_signs(row, 0)
    # The groups of each depth, the one of all tops above them: what opens is counted in the last group above it.
    levels = [[0]]
    depth = 0
    for sign in row:
        if sign == "1":
            levels[depth][-1] += 1
            depth += 1
            if depth == len(levels):
                levels.append([])
            levels[depth].append(0)
        else:
            depth -= 1
    return "".join([counted_row(level) for level in levels])


def open_to_counts(row):
    check_signs(row, 0)
    groups = [0]
    # The numbers of the groups in which one counts: that of all tops, then those of the open knots.
    path = [0]
    for sign in row:
        if sign == "1":
            groups[path[-1]] += 1
            path.append(len(groups))
            groups.append(0)
        else:
            path.pop()
    return counted_row(groups)


def levels_to_open(row):
    return counts_to_open(levels_to_counts(row))


def levels_to_counts(row):
    check_signs(row, 1)
    groups = groups_of(row)
    ahead = running_sums(groups)
    by_opening = []
    # Groups by their numbers by levels; the leftmost waits last.
    waiting = [0]
    while len(waiting) > 0:
        group = waiting.pop()
        by_opening.append(groups[group])
        waiting.extend(list(range(ahead[group + 1], ahead[group], -1)))
    return counted_row(by_opening)


def counts_to_open(row):
    check_signs(row, 1)
    groups = groups_of(row)
    signs = []
    # How many are to come of all tops, and of the children of each open knot.
    waiting = groups[:1]
    for many in groups[1:]:
        signs.append("1")
        waiting[-1] -= 1
        waiting.append(many)
        while len(waiting) > 1 and waiting[-1] == 0:
            signs.append("0")
            waiting.pop()
    return "".join(signs)


def counts_to_levels(row):
    return open_to_levels(counts_to_open(row))
