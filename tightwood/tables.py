"""How many woods of a size there are."""


def table_of(n):
    """For so many signs that are left, and so many open knots: how many texts lead to no open one."""
    table = [[1]]
    for left in range(1, 2 * n + 1):
        # An opening comes to one open knot more, a closing to one less; there is no way beyond an end of the list.
        table.append([more + less for more, less in zip(table[left - 1][1:] + [0, 0], [0] + table[left - 1])])
    return table


def many_woods(n):
    many = 1
    for knots in range(n):
        # This is how the last list's first number grows from table to table, without the tables.
        many = many * (4 * knots + 2) // (knots + 2)
    return many


def many_shallow(n, deepest):
    # For each height how many rows lead to it; higher than the knots of the deepest depth lead, none does.
    ways = [1] + [0] * min(n, deepest + 1)
    for sign in range(2 * n):
        ways = [below + above for below, above in zip([0] + ways, ways[1:] + [0])]
    return ways[0]
