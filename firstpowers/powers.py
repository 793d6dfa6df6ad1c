"""Products and powers of tables."""

from firstpowers.errors import Apart
from firstpowers.things import want_number, want_table

MOST_POWER = 60


def multiplied(one, other):
    """Tell the product of two tables of one size."""
    size = len(one)
    return tuple([
        tuple([sum([row[by] * other[by][place] for by in range(size)]) for place in range(size)])
        for row in one
    ])


def power_of_none(size):
    """Tell the table with 1 where row and place are the same, and 0 elsewhere."""
    return tuple([tuple([1 if row == place else 0 for place in range(size)]) for row in range(size)])


def product(one, other):
    """Tell the product of two tables."""
    want_table(one)
    want_table(other)
    if len(one) != len(other):
        raise Apart("tables of unlike sizes have no product")
    return multiplied(one, other)


def power(table, k):
    """Tell the product of so many of a table."""
    want_table(table)
    want_number(k, 0, MOST_POWER)
    told = power_of_none(len(table))
    for step in range(k):
        told = multiplied(told, table)
    return told
