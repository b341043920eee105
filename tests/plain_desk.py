"""A desk over plain lists of elders: what the desk's answers are held against."""

import math
import re

from tests.plain import PlainWood, plain_cut, plain_elders, plain_graft, plain_heights, plain_row
from tightwood.errors import Nameless, Nobody, NoDeed, NoFit, NoGraft, NoKnot, NoLine, NoNumber, TooLarge

NAME = "([a-z]{1,8})"
FEW = "(0|[1-9][0-9]{0,3})"
SIZE = "(0|[1-9][0-9]?|1[0-9][0-9]|200)"
FORMS = {
    "wood": f"{NAME} (-|[01]+)", "made": f"{NAME} {SIZE} (0|[1-9][0-9]{{0,119}})",
    "row": f"{NAME} (opened|levels|counts)", "nth": f"{NAME} {FEW} {FEW}", "up": f"{NAME} {FEW} {FEW}",
    "nearest": f"{NAME} {FEW} {FEW}", "level": f"{NAME} {FEW}", "cut": f"{NAME} {FEW} {NAME}",
    "graft": f"{NAME} (top|0|[1-9][0-9]{{0,3}}) {FEW} {NAME}", "back": NAME,
    "names": f"{NAME} (-|[a-z]{{1,8}}(?:,[a-z]{{1,8}})*)", "all": f"{NAME} {NAME}", "under": f"{NAME} {FEW} {NAME}",
    "number": NAME, "packed": NAME, "count": SIZE, "alike": f"{NAME} {NAME}",
}
OF_ONE_KNOT = ("elder", "first", "last", "right", "left", "many", "beneath", "depth")
FORMS.update({first: f"{NAME} {FEW}" for first in OF_ONE_KNOT})


def ways(left, still_open):
    """How many texts of so many signs lead from so many open knots to none."""
    if still_open < 0 or still_open > left or (left - still_open) % 2 == 1:
        return 0
    # Of all texts with so many openings, those that once close too much are as many as those with one opening less.
    openings = (left - still_open) // 2
    return math.comb(left, openings) - (math.comb(left, openings - 1) if openings > 0 else 0)


def plain_number(row):
    """How many rows of the size stand ahead of it."""
    ahead = 0
    for place, height in enumerate(plain_heights(row)[:-1]):
        if row[place] == "1":
            ahead += ways(len(row) - place - 1, height - 1)
    return ahead


def plain_wood_of(n, number):
    row = ""
    while len(row) < 2 * n:
        left = 2 * n - len(row) - 1
        closing = ways(left, row.count("1") - row.count("0") - 1)
        row += "0" if number < closing else "1"
        number -= 0 if row[-1] == "0" else closing
    return plain_elders(row)


def is_balanced(row):
    heights = plain_heights(row)
    return min(heights) >= 0 and heights[-1] == 0 and len(row) <= 8000


def shown(answer):
    if answer is None:
        return "none"
    if isinstance(answer, list):
        return ",".join([str(one) for one in answer]) or "-"
    return str(answer) or "-"


class PlainDesk:
    """Of each name the elders, those ahead of each deed, and the names on the knots or None."""

    def __init__(self):
        self.elders = {}
        self.past = {}
        self.tags = {}

    def say(self, row):
        words = row.split(" ") if isinstance(row, str) else [""]
        form = FORMS.get(words[0])
        if form is None or not re.fullmatch(f"{words[0]} {form}", row):
            raise NoLine("row")
        if words[0] == "wood" and words[2] != "-" and not is_balanced(words[2]):
            raise NoLine("wood")
        asked = {"wood": [], "made": [], "count": [], "graft": [words[1], words[-1]], "alike": words[1:]}
        for name in asked.get(words[0], [words[1]]):
            if name not in self.elders:
                raise Nobody("name")
        if words[0] in ("all", "under") and self.tags[words[1]] is None:
            raise Nameless("names")
        ask = self.ask_knot if words[0] in OF_ONE_KNOT else getattr(self, f"do_{words[0]}")
        return shown(ask(words, words[1]))

    def put(self, name, elders):
        self.elders[name] = elders
        self.past[name] = []
        self.tags[name] = None

    def change(self, name, elders):
        self.past[name].append(self.elders[name])
        self.elders[name] = elders
        self.tags[name] = None

    def knot(self, name, word):
        if int(word) >= len(self.elders[name]):
            raise NoKnot("knot")
        return int(word)

    def do_wood(self, words, name):
        self.put(name, [] if words[2] == "-" else plain_elders(words[2]))
        return len(self.elders[name])

    def do_made(self, words, name):
        if int(words[3]) >= ways(2 * int(words[2]), 0):
            raise NoNumber("number")
        self.put(name, plain_wood_of(int(words[2]), int(words[3])))
        return "ok"

    def do_row(self, words, name):
        plain = PlainWood(self.elders[name])
        if words[2] == "opened":
            return plain_row(plain.elders)
        return plain.counted_row(plain.by_levels if words[2] == "levels" else range(plain.many_knots))

    def ask_knot(self, words, name):
        k = self.knot(name, words[2])
        plain = PlainWood(self.elders[name])
        if words[0] in ("beneath", "depth"):
            return plain.beneath[k] if words[0] == "beneath" else plain.depths[k]
        return getattr(plain, words[0])(k)

    def do_nth(self, words, name):
        children = PlainWood(self.elders[name]).children[self.knot(name, words[2])]
        return children[int(words[3])] if int(words[3]) < len(children) else None

    def do_up(self, words, name):
        way = PlainWood(self.elders[name]).upward(self.knot(name, words[2]))
        return way[int(words[3])] if int(words[3]) < len(way) else None

    def do_nearest(self, words, name):
        plain = PlainWood(self.elders[name])
        way = plain.upward(self.knot(name, words[2]))
        others = plain.upward(self.knot(name, words[3]))
        return max(set(way) & set(others), default=None)

    def do_level(self, words, name):
        return PlainWood(self.elders[name]).by_levels.index(self.knot(name, words[2]))

    def do_cut(self, words, name):
        taken, left = plain_cut(self.elders[name], self.knot(name, words[2]))
        self.change(name, left)
        self.put(words[3], taken)
        return len(taken)

    def do_graft(self, words, name):
        k = None if words[2] == "top" else self.knot(name, words[2])
        plain = PlainWood(self.elders[name])
        if int(words[3]) > len(plain.tops if k is None else plain.children[k]):
            raise NoGraft("place")
        if len(self.elders[name]) + len(self.elders[words[4]]) > 4000:
            raise TooLarge("knots")
        self.change(name, plain_graft(self.elders[name], k, int(words[3]), self.elders[words[4]]))
        return len(self.elders[name])

    def do_back(self, words, name):
        if not self.past[name]:
            raise NoDeed("deed")
        self.elders[name] = self.past[name].pop()
        self.tags[name] = None
        return len(self.elders[name])

    def do_names(self, words, name):
        names = [] if words[2] == "-" else words[2].split(",")
        if len(names) != len(self.elders[name]):
            raise NoFit("names")
        self.tags[name] = names
        return "ok"

    def do_all(self, words, name):
        return [k for k, tag in enumerate(self.tags[name]) if tag == words[2]]

    def do_under(self, words, name):
        k = self.knot(name, words[2])
        behind = k + PlainWood(self.elders[name]).beneath[k] + 1
        return [one for one in range(k, behind) if self.tags[name][one] == words[3]]

    def do_number(self, words, name):
        if len(self.elders[name]) > 200:
            raise TooLarge("knots")
        return plain_number(plain_row(self.elders[name]))

    def do_packed(self, words, name):
        number = self.do_number(words, name)
        size = 0
        while 2 ** size < ways(2 * len(self.elders[name]), 0):
            size += 1
        return bin(number)[2:].zfill(size)[-size:] if size > 0 else ""

    def do_count(self, words, name):
        return ways(2 * int(words[1]), 0)

    def do_alike(self, words, name):
        one = self.elders[name]
        other = self.elders[words[2]]
        return min([k for k in range(max(len(one), len(other))) if one[k:k + 1] != other[k:k + 1]], default=None)
