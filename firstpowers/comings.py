"""How the marks of a table's powers come round."""

from firstpowers.powers import multiplied
from firstpowers.tables import full, marks
from firstpowers.things import want_number, want_table

MOST_POWER = 10 ** 30


def marks_after(ahead, table):
    """Tell the marks of the product of the table ahead and a table."""
    return marks(multiplied(ahead, table))


def marks_and_return(table):
    """Tell the list of all marks of a table's powers, and the place in it to which they come back."""
    told = [marks(table)]
    later = marks_after(told[-1], table)
    while later not in told:
        told.append(later)
        later = marks_after(later, table)
    return told, told.index(later)


def marks_at(told, back, k):
    """Tell the marks of the power k, of the list of all marks and the place to which they come back."""
    at = k - 1
    if at < len(told):
        return told[at]
    # The powers are far too many to be gone through, so the rest of them is only counted.
    return told[back + (at - back) % (len(told) - back)]


def round_of(table):
    """Tell the tuple (ahead, long): the first power whose marks come again, and after how many."""
    told, back = marks_and_return(table)
    return back + 1, len(told) - back


def all_marks(table):
    """Tell the list of all marks of a table's powers, from the power 1 on, each once."""
    return marks_and_return(table)[0]


def marks_of(table, k):
    """Tell the marks of a table's power k."""
    want_table(table)
    want_number(k, 1, MOST_POWER)
    told, back = marks_and_return(table)
    return marks_at(told, back, k)


def same_marks(table, one, other):
    """Tell whether two powers of a table have the same marks."""
    want_table(table)
    want_number(one, 1, MOST_POWER)
    want_number(other, 1, MOST_POWER)
    told, back = marks_and_return(table)
    return marks_at(told, back, one) == marks_at(told, back, other)


def ever_full(table):
    """Tell whether the marks of some power have no 0."""
    return any([full(each) for each in all_marks(table)])
