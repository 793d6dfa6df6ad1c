"""What the other modules need in common to look at what is handed in."""

from firstpowers.errors import NoLengths, NoNumber, NoOrder, NoPlace, NoSet, NoTable, NoTables, NoWay

MOST_ROWS = 6
MOST_LENGTHS = 6
MOST_LENGTH = 12
MOST_TABLES = 3
MOST_ROWS_OF_SEVERAL = 3
MOST_WAY = 60


def is_whole(thing):
    """Tell whether a thing is a whole number."""
    # To Python the truths are ints, to the document they are no numbers.
    return isinstance(thing, int) and not isinstance(thing, bool)


def is_within(thing, least, most):
    """Tell whether a thing is a whole number from least to most."""
    return is_whole(thing) and least <= thing <= most


def is_from(thing, least):
    """Tell whether a thing is a whole number from least on."""
    return is_whole(thing) and thing >= least


def is_place(thing, size):
    """Tell whether a thing is a place of the tables of a size."""
    return is_within(thing, 0, size - 1)


def are_places(thing, size):
    """Tell whether a thing is a tuple of places, in any order, perhaps none."""
    return isinstance(thing, tuple) and all([is_place(each, size) for each in thing])


def rises(row):
    """Tell whether each thing of a tuple is greater than the one ahead; all can be compared."""
    return all([one < other for one, other in zip(row, row[1:])])


def is_set(thing, size):
    """Tell whether a thing is a rising tuple of places, perhaps none."""
    # Places first: only then can the things be compared.
    return are_places(thing, size) and rises(thing)


def is_order(thing, size):
    """Tell whether a thing is a tuple of all places, each once."""
    return are_places(thing, size) and sorted(thing) == list(range(size))


def is_way(thing, many, least, most):
    """Tell whether a thing is a tuple of least to most places in a list of so many tables."""
    return are_places(thing, many) and least <= len(thing) <= most


def are_lengths(thing):
    """Tell whether a thing is a rising tuple of one to six whole numbers from 1 to 12."""
    if not isinstance(thing, tuple) or not 1 <= len(thing) <= MOST_LENGTHS:
        return False
    return all([is_within(each, 1, MOST_LENGTH) for each in thing]) and rises(thing)


def is_table_row(thing, size):
    """Tell whether a thing is a tuple of so many whole numbers from 0 on."""
    if not isinstance(thing, tuple) or len(thing) != size:
        return False
    return all([is_whole(number) and number >= 0 for number in thing])


def has_table_form(thing):
    """Tell whether a thing is a table."""
    if not isinstance(thing, tuple) or not 1 <= len(thing) <= MOST_ROWS:
        return False
    return all([is_table_row(row, len(thing)) for row in thing])


def want_table(thing):
    """Refuse what is no table."""
    if not has_table_form(thing):
        raise NoTable("a table is a tuple of 1 to 6 rows, each a tuple of as many whole numbers from 0 on")


def want_place(table, thing):
    """Refuse what is no place of a table."""
    if not is_place(thing, len(table)):
        raise NoPlace("a place is a whole number from 0 to one less than the table has rows")


def want_set(table, thing):
    """Refuse what is no set of a table's places."""
    if not is_set(thing, len(table)):
        raise NoSet("a set is a rising tuple of places of the table")


def want_order(table, thing):
    """Refuse what is no order of a table's places."""
    if not is_order(thing, len(table)):
        raise NoOrder("an order is a tuple of all places of the table, each once")


def want_number(thing, least, most):
    """Refuse what is no whole number from least to most."""
    if not is_within(thing, least, most):
        raise NoNumber("a whole number within the bounds of the question is wanted")


def want_lengths(thing):
    """Refuse what is no lengths."""
    if not are_lengths(thing):
        raise NoLengths("lengths are a rising tuple of one to six whole numbers from 1 to 12")


def want_tables(thing):
    """Refuse what is no list of one to three tables, of one size from 1 to 3."""
    if not isinstance(thing, list) or not 1 <= len(thing) <= MOST_TABLES:
        raise NoTables(-1)
    for at, each in enumerate(thing):
        # The one at 0 was looked at by then, so it has a size.
        if not has_table_form(each) or len(each) > MOST_ROWS_OF_SEVERAL or len(each) != len(thing[0]):
            raise NoTables(at)


def want_way(tables, thing):
    """Refuse what is no way along several tables."""
    if not is_way(thing, len(tables), 1, MOST_WAY):
        raise NoWay("a way is a tuple of one to 60 places in the list of tables")
