"""The desk: it is told rows of words, and keeps woods by names.

A line is a row as it was read, its first word ahead. What answers it asks the desk first for the woods that it needs,
from the left, and for their names: so these are missed ahead of all else that is refused.
"""

from tightwood.alike import PAPER, first_unlike, paper_of
from tightwood.checks import check_knot
from tightwood.errors import Nameless, Nobody
from tightwood.leading import open_to_counts, open_to_levels
from tightwood.lines import read_line, shown
from tightwood.named import Named
from tightwood.numbering import level_numbers
from tightwood.opened import Opened
from tightwood.ranks import number_of, packed, wood_of
from tightwood.shaped import Shaped
from tightwood.tables import many_woods


def tell_wood(desk, line):
    desk.put_wood(line[1], line[2])
    return len(line[2])


def make_wood(desk, line):
    desk.put_wood(line[1], wood_of(line[2], line[3]))
    return "ok"


def row_by(desk, line):
    row = desk.wood_by(line[1]).row()
    if line[2] == "levels":
        return open_to_levels(row)
    return open_to_counts(row) if line[2] == "counts" else row


def paper_part(desk, line):
    return paper_of(desk.wood_by(line[1]), line[2])[PAPER.index(line[0])]


def nth_child(desk, line):
    return desk.wood_by(line[1]).nth(line[2], line[3])


def elder_up(desk, line):
    return desk.wood_by(line[1]).up(line[2], line[3])


def nearest_of_two(desk, line):
    return desk.wood_by(line[1]).nearest(line[2], line[3])


def level_number(desk, line):
    wood = desk.wood_by(line[1])
    check_knot(line[2], wood.many_knots())
    return level_numbers(wood.elders())[line[2]]


def cut_wood(desk, line):
    taken = desk.wood_by(line[1]).cut(line[2])
    desk.take_names_off(line[1])
    desk.put_wood(line[3], taken)
    return len(taken)


def graft_wood(desk, line):
    wood = desk.wood_by(line[1])
    # Told ahead of the deed: the other wood may be this one.
    elders = desk.wood_by(line[4]).elders()
    wood.graft(None if line[2] == "top" else line[2], line[3], elders)
    desk.take_names_off(line[1])
    return wood.many_knots()


def take_deed_back(desk, line):
    wood = desk.wood_by(line[1])
    wood.take_back()
    desk.take_names_off(line[1])
    return wood.many_knots()


def hang_names(desk, line):
    desk.put_names(line[1], line[2])
    return "ok"


def all_of_name(desk, line):
    return desk.names_by(line[1]).all_of(line[2])


def all_under(desk, line):
    return desk.names_by(line[1]).all_beneath(line[2], line[3])


def own_rank(desk, line):
    return number_of(desk.wood_by(line[1]).elders())


def packed_signs(desk, line):
    return packed(desk.wood_by(line[1]).elders())


def count_of_woods(desk, line):
    return many_woods(line[1])


def first_difference(desk, line):
    return first_unlike(desk.wood_by(line[1]), desk.wood_by(line[2]))


ANSWERS = {
    "wood": tell_wood,
    "made": make_wood,
    "row": row_by,
    "elder": paper_part,
    "first": paper_part,
    "last": paper_part,
    "right": paper_part,
    "left": paper_part,
    "many": paper_part,
    "beneath": paper_part,
    "depth": paper_part,
    "nth": nth_child,
    "up": elder_up,
    "nearest": nearest_of_two,
    "level": level_number,
    "cut": cut_wood,
    "graft": graft_wood,
    "back": take_deed_back,
    "names": hang_names,
    "all": all_of_name,
    "under": all_under,
    "number": own_rank,
    "packed": packed_signs,
    "count": count_of_woods,
    "alike": first_difference,
}


class Desk:
    """Woods by names, and the names on the knots of those that have any."""

    def __init__(self):
        self.kept_woods = {}
        self.kept_names = {}

    def say(self, row):
        line = read_line(row)
        answer = ANSWERS[line[0]]
        return shown(answer(self, line))

    def wood_by(self, name):
        if name not in self.kept_woods:
            raise Nobody("no wood stands by the name")
        return self.kept_woods[name]

    def names_by(self, name):
        self.wood_by(name)
        if name not in self.kept_names:
            raise Nameless("the wood's knots have no names")
        return self.kept_names[name]

    def put_wood(self, name, elders):
        self.kept_woods[name] = Shaped(elders)
        self.take_names_off(name)

    def put_names(self, name, names):
        # The named wood is one apart: that of the desk may be cut and grafted.
        self.kept_names[name] = Named(Opened(self.wood_by(name).elders()), names)

    def take_names_off(self, name):
        self.kept_names.pop(name, None)
