"""All tables of 0 and 1 of a size by their first powers, and tables that are alike but for their places' names."""

from firstpowers.errors import TooGreat
from firstpowers.firsts import first_power
from firstpowers.slow import slowest_power
from firstpowers.tables import marks, renamed
from firstpowers.things import want_number, want_table

MOST_LISTED = 3
MOST_RENAMED = 5


def all_rows(things, many):
    """Tell the list of all tuples of so many things, each one of these."""
    told = [()]
    for step in range(many):
        told = [row + (thing,) for row in told for thing in things]
    return told


def all_mark_tables(size):
    """Tell the list of all tables of 0 and 1 alone of a size."""
    return all_rows(all_rows((0, 1), size), size)


def all_orders(size):
    """Tell the list of all orders of the places of a size."""
    told = [()]
    for step in range(size):
        told = [order + (place,) for order in told for place in range(size) if place not in order]
    return told


def by_first(size):
    """Tell the list of how many tables of 0 and 1 of a size have each first power, those with none as 0."""
    want_number(size, 1, MOST_LISTED)
    counts = {}
    for table in all_mark_tables(size):
        k = first_power(table)
        told = 0 if k is None else k
        counts[told] = counts.get(told, 0) + 1
    return sorted(counts.items())


def least_alike(table):
    """Tell the least of the marks of all that a table becomes by renaming."""
    want_table(table)
    if len(table) > MOST_RENAMED:
        raise TooGreat(len(table), MOST_RENAMED)
    marked = marks(table)
    return min([renamed(marked, order) for order in all_orders(len(table))])


def slowest_tables(size):
    """Tell the list of the least tables of 0 and 1 that are alike with those of the greatest first power."""
    want_number(size, 1, MOST_LISTED)
    slowest = slowest_power(size)
    return sorted({least_alike(table) for table in all_mark_tables(size) if first_power(table) == slowest})
