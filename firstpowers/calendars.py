"""Calendars: papers of how the marks of a table's powers come round."""

from firstpowers.comings import marks_after
from firstpowers.tables import marks
from firstpowers.things import has_table_form, is_from, want_table


def are_unlike_tables(thing, many, size):
    """Tell whether a thing is a tuple of so many unlike tables of a size."""
    if not isinstance(thing, tuple) or len(thing) != many:
        return False
    # Tables first: only then have the things a size, and can be compared as members of a set.
    if not all([has_table_form(each) and len(each) == size for each in thing]):
        return False
    return len(set(thing)) == many


def follow(table, rows):
    """Tell whether each of the rows but the first is the marks of the product of the one ahead and a table."""
    return all([later == marks_after(ahead, table) for ahead, later in zip(rows, rows[1:])])


def calendar_holds(table, thing):
    """Tell, of whatever is handed in, whether it is a calendar of a table."""
    want_table(table)
    if not isinstance(thing, tuple) or len(thing) != 3:
        return False
    ahead, long, rows = thing
    if not is_from(ahead, 1) or not is_from(long, 1):
        return False
    if not are_unlike_tables(rows, ahead + long - 1, len(table)):
        return False
    if rows[0] != marks(table) or not follow(table, rows):
        return False
    return marks_after(rows[-1], table) == rows[ahead - 1]
