"""Orders: lists in which each number from 0 on stands once, with shortcuts for the way back."""

from tightwood.checks import is_within
from tightwood.errors import NoOrder


def check_order(order):
    met = [False] * len(order)
    for place, number in enumerate(order):
        if not is_within(number, 0, len(order) - 1) or met[number]:
            raise NoOrder(place)
        met[number] = True


def rounds_of(order):
    """All rounds, each as the list of its places from its least one on as one goes."""
    rounds = []
    met = [False] * len(order)
    for least in range(len(order)):
        places = []
        place = least
        while not met[place]:
            met[place] = True
            places.append(place)
            place = order[place]
        if len(places) > 0:
            rounds.append(places)
    return rounds


def shortcuts_of(order, step):
    shortcuts = {}
    for places in rounds_of(order):
        if len(places) > step:
            marked = places[::step]
            shortcuts.update(dict(zip(marked, marked[-1:] + marked[:-1])))
    return shortcuts


class Shortcuts:
    """An order that never changes: one goes on by the order, and back by its shortcuts."""

    def __init__(self, order, step=16):
        check_order(order)
        self.onward = tuple(order)
        self.leaps = shortcuts_of(self.onward, step)

    def there(self, place):
        return self.onward[place]

    def back(self, place):
        return self.way_back(place)[-1]

    def shortcuts(self):
        return sorted(self.leaps.items())

    def way_back(self, place):
        way = [place]
        now = place
        while now not in self.leaps and self.onward[now] != place:
            now = self.onward[now]
            way.append(now)
        if now in self.leaps:
            now = self.leaps[now]
            way.append(now)
        while self.onward[now] != place:
            now = self.onward[now]
            way.append(now)
        return way
