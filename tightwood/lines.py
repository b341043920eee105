"""Rows that are told to the desk: how their words are read, and how its answers are written."""

from tightwood.checks import is_within
from tightwood.errors import NoLine, NoRow
from tightwood.named import is_name
from tightwood.ranks import MOST_RANKED
from tightwood.woods import elders_of

FIGURES = "0123456789"
FEW_FIGURES = 4
MANY_FIGURES = 120
KINDS = ("opened", "levels", "counts")


def written_number(word, figures):
    if not isinstance(word, str) or len(word) == 0 or len(word) > figures:
        return None
    number = 0
    for sign in word:
        if sign not in FIGURES:
            return None
        number = 10 * number + FIGURES.index(sign)
    return None if word[0] == "0" and len(word) > 1 else number


def wood_of_word(word):
    if word == "-":
        return []
    try:
        elders = elders_of(word)
    except NoRow:
        return None
    # The text without signs is a row, but no word.
    return elders if len(elders) > 0 else None


def read_name(word):
    return word if is_name(word) else None


def read_few(word):
    return written_number(word, FEW_FIGURES)


def read_many(word):
    return written_number(word, MANY_FIGURES)


def read_size(word):
    size = read_few(word)
    return size if is_within(size, 0, MOST_RANKED) else None


def read_kind(word):
    return word if word in KINDS else None


def read_graft(word):
    return word if word == "top" else read_few(word)


def read_names(word):
    names = [] if word == "-" else word.split(",")
    return names if all([is_name(name) for name in names]) else None


# How the words behind the first one are read; each reader tells None of what is no such word.
FORMS = {
    "wood": (read_name, wood_of_word),
    "made": (read_name, read_size, read_many),
    "row": (read_name, read_kind),
    "elder": (read_name, read_few),
    "first": (read_name, read_few),
    "last": (read_name, read_few),
    "right": (read_name, read_few),
    "left": (read_name, read_few),
    "many": (read_name, read_few),
    "beneath": (read_name, read_few),
    "depth": (read_name, read_few),
    "nth": (read_name, read_few, read_few),
    "up": (read_name, read_few, read_few),
    "nearest": (read_name, read_few, read_few),
    "level": (read_name, read_few),
    "cut": (read_name, read_few, read_name),
    "graft": (read_name, read_graft, read_few, read_name),
    "back": (read_name,),
    "names": (read_name, read_names),
    "all": (read_name, read_name),
    "under": (read_name, read_few, read_name),
    "number": (read_name,),
    "packed": (read_name,),
    "count": (read_size,),
    "alike": (read_name, read_name),
}


def read_line(row):
    """The first word of a row, and behind it what the others stand for."""
    words = row.split(" ") if isinstance(row, str) else [""]
    if words[0] not in FORMS or len(words) != len(FORMS[words[0]]) + 1:
        raise NoLine("no such row")
    line = words[:1] + [read(word) for read, word in zip(FORMS[words[0]], words[1:])]
    if None in line:
        raise NoLine("a word of the row is none that may stand there")
    return line


def shown_list(some):
    return ",".join([shown(one) for one in some]) if len(some) > 0 else "-"


def shown(answer):
    if answer is None:
        return "none"
    if isinstance(answer, list):
        return shown_list(answer)
    return "-" if answer == "" else f"{answer}"
