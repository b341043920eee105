"""Numbers by levels and numbers by opening."""

from tightwood.woods import depths_of, level_order, look_at


def level_numbers(elders):
    order = open_numbers(elders)
    numbers = [0] * len(order)
    for number, k in enumerate(order):
        numbers[k] = number
    return numbers


def open_numbers(elders):
    return level_order(depths_of(look_at(elders)))
