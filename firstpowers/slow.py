"""The slowest tables of a size, and bounds that no first power goes beyond."""

from firstpowers.firsts import want_first_power
from firstpowers.tables import marks, turned
from firstpowers.things import MOST_ROWS, want_number, want_table


def slow_table(size):
    """Tell the table of marks of a size whose first power comes last."""
    want_number(size, 2, MOST_ROWS)
    rows = [tuple([1 if other == one + 1 else 0 for other in range(size)]) for one in range(size - 1)]
    last = tuple([1 if other < 2 else 0 for other in range(size)])
    return tuple(rows) + (last,)


def slowest_power(size):
    """Tell the greatest first power of the tables of a size."""
    want_number(size, 1, MOST_ROWS)
    return (size - 1) * (size - 1) + 1


def bound_for(table):
    """Tell the least of the bounds that hold for the first power of a table."""
    want_table(table)
    want_first_power(table)
    size = len(table)
    bounds = [slowest_power(size)]
    to_themselves = len([place for place in range(size) if table[place][place] != 0])
    if to_themselves > 0:
        bounds.append(2 * size - to_themselves - 1)
    if marks(table) == marks(turned(table)):
        bounds.append(2 * size - 2)
    return max(1, min(bounds))
