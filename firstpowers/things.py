"""What the other modules need in common to look at what is handed in."""

from firstpowers.errors import NoNumber, NoOrder, NoPlace, NoSet, NoTable

MOST_ROWS = 6


def is_whole(thing):
    """Tell whether a thing is a whole number."""
    # To Python the truths are ints, to the document they are no numbers.
    return isinstance(thing, int) and not isinstance(thing, bool)


def is_within(thing, least, most):
    """Tell whether a thing is a whole number from least to most."""
    return is_whole(thing) and least <= thing <= most


def is_from(thing, least):
    """Tell whether a thing is a whole number from least on."""
    return is_whole(thing) and thing >= least


def is_place(thing, size):
    """Tell whether a thing is a place of the tables of a size."""
    return is_within(thing, 0, size - 1)


def are_places(thing, size):
    """Tell whether a thing is a tuple of places, in any order, perhaps none."""
    return isinstance(thing, tuple) and all([is_place(each, size) for each in thing])


def is_set(thing, size):
    """Tell whether a thing is a rising tuple of places, perhaps none."""
    # Places first: only then can the things be compared.
    return are_places(thing, size) and all([one < other for one, other in zip(thing, thing[1:])])


def is_order(thing, size):
    """Tell whether a thing is a tuple of all places, each once."""
    return are_places(thing, size) and sorted(thing) == list(range(size))


def is_table_row(thing, size):
    """Tell whether a thing is a tuple of so many whole numbers from 0 on."""
    if not isinstance(thing, tuple) or len(thing) != size:
        return False
    return all([is_whole(number) and number >= 0 for number in thing])


def has_table_form(thing):
    """Tell whether a thing is a table."""
    if not isinstance(thing, tuple) or not 1 <= len(thing) <= MOST_ROWS:
        return False
    return all([is_table_row(row, len(thing)) for row in thing])


def want_table(thing):
    """Refuse what is no table."""
    if not has_table_form(thing):
        raise NoTable("a table is a tuple of 1 to 6 rows, each a tuple of as many whole numbers from 0 on")


def want_place(table, thing):
    """Refuse what is no place of a table."""
    if not is_place(thing, len(table)):
        raise NoPlace("a place is a whole number from 0 to one less than the table has rows")


def want_set(table, thing):
    """Refuse what is no set of a table's places."""
    if not is_set(thing, len(table)):
        raise NoSet("a set is a rising tuple of places of the table")


def want_order(table, thing):
    """Refuse what is no order of a table's places."""
    if not is_order(thing, len(table)):
        raise NoOrder("an order is a tuple of all places of the table, each once")


def want_number(thing, least, most):
    """Refuse what is no whole number from least to most."""
    if not is_within(thing, least, most):
        raise NoNumber("a whole number within the bounds of the question is wanted")
