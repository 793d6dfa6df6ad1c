"""Tables: whether a thing is one, and what is made of one by turning and renaming."""

from firstpowers.things import has_table_form, want_order, want_table


def is_table(thing):
    """Tell, of whatever is handed in, whether it is a table."""
    return has_table_form(thing)


def full(table):
    """Tell whether no number of a table is 0."""
    want_table(table)
    return all([number != 0 for row in table for number in row])


def marks(table):
    """Tell the table with 1 in the place of each number but 0."""
    want_table(table)
    return tuple([tuple([1 if number != 0 else 0 for number in row]) for row in table])


def turned(table):
    """Tell the table whose rows are the table's columns."""
    want_table(table)
    return tuple([tuple([row[place] for row in table]) for place in range(len(table))])


def renamed(table, order):
    """Tell the table in which order[i] is the name of place i."""
    want_table(table)
    want_order(table, order)
    # A row of the answer asks which place bears its name, so the order is read backwards.
    olds = [order.index(name) for name in range(len(table))]
    return tuple([tuple([table[one][other] for other in olds]) for one in olds])
