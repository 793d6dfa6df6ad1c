"""When the rows and the pairs of places of a table's powers are without a nought, and when any two rows meet."""

from firstpowers.comings import all_marks
from firstpowers.firsts import want_first_power
from firstpowers.things import want_place, want_table


def behind_last_nought(told, one, other):
    """Tell the number behind that of the last power with 0 at a row and a place, 1 where none has it."""
    return 1 + max([0] + [k for k, each in enumerate(told, start=1) if each[one][other] == 0])


def rows_meet(table):
    """Tell whether any two rows, also one with itself, have a place where both have no 0."""
    return all([
        any([number != 0 and with_it != 0 for number, with_it in zip(one, other)]) for one in table for other in table
    ])


def first_row(table, place):
    """Tell the least number from 1 on whose power has no 0 in the row of a place."""
    want_table(table)
    want_place(table, place)
    want_first_power(table)
    return [k for k, each in enumerate(all_marks(table), start=1) if 0 not in each[place]][0]


def first_pair(table, one, other):
    """Tell the least number from 1 on from which no power has 0 at the one's row and the other one's place."""
    want_table(table)
    want_place(table, one)
    want_place(table, other)
    want_first_power(table)
    # The last of all marks is full, and so are those of all greater powers.
    return behind_last_nought(all_marks(table), one, other)


def first_pairs(table):
    """Tell the table of what first_pair tells of each two places."""
    want_table(table)
    want_first_power(table)
    told = all_marks(table)
    places = list(range(len(table)))
    return tuple([tuple([behind_last_nought(told, one, other) for other in places]) for one in places])


def meeting(table):
    """Tell the least number from 1 on in whose power any two rows meet, None where there is none."""
    for k, each in enumerate(all_marks(table), start=1):
        if rows_meet(each):
            return k
    return None
