"""The first power of a table without a nought, and papers that it is the first."""

from firstpowers.afters import set_after, step_after
from firstpowers.comings import all_marks, marks_of
from firstpowers.errors import Apart
from firstpowers.tables import full
from firstpowers.things import is_from, is_place, is_set, want_table
from firstpowers.walks import first_walk, has_walk_form


def first_power(table):
    """Tell the least number from 1 on whose power has no 0, None where there is none."""
    for at, each in enumerate(all_marks(table)):
        if full(each):
            return at + 1
    return None


def want_first_power(table):
    """Refuse a table that has no first power."""
    if first_power(table) is None:
        raise Apart("a table with a first power is wanted")


def is_walk_between(table, thing, one, other, k):
    """Tell whether a thing is a walk of k steps from the one place to the other."""
    return has_walk_form(table, thing) and len(thing) == k + 1 and thing[0] == one and thing[-1] == other


def are_walks_from(table, thing, one, k):
    """Tell whether a thing is a tuple with, for each place, a walk of k steps from the one to it."""
    if not isinstance(thing, tuple) or len(thing) != len(table):
        return False
    return all([is_walk_between(table, walk, one, other, k) for other, walk in enumerate(thing)])


def are_all_walks(table, thing, k):
    """Tell whether a thing is a tuple with, for each place, the walks of k steps from it."""
    if not isinstance(thing, tuple) or len(thing) != len(table):
        return False
    return all([are_walks_from(table, walks, one, k) for one, walks in enumerate(thing)])


def are_sets(thing, many, size):
    """Tell whether a thing is a tuple of so many sets of the places of a size."""
    return isinstance(thing, tuple) and len(thing) == many and all([is_set(each, size) for each in thing])


def take_in_arrows(table, sets):
    """Tell whether each of the sets has all places to which an arrow goes from one of that ahead."""
    return all([
        head in later for ahead, later in zip(sets, sets[1:]) for head in step_after(table, ahead)
    ])


def is_gap(table, thing, k):
    """Tell whether a thing shows that the power ahead of k, k being 2 or more, has a 0."""
    if not isinstance(thing, tuple) or len(thing) != 3:
        return False
    one, other, sets = thing
    size = len(table)
    if not is_place(one, size) or not is_place(other, size) or not are_sets(sets, k, size):
        return False
    return one in sets[0] and take_in_arrows(table, sets) and other not in sets[-1]


def first_holds(table, thing):
    """Tell, of whatever is handed in, whether it is a paper of a table's first power."""
    want_table(table)
    if not isinstance(thing, tuple) or len(thing) != 3:
        return False
    k, walks, gap = thing
    if not is_from(k, 1) or not are_all_walks(table, walks, k):
        return False
    return gap is None if k == 1 else is_gap(table, gap, k)


def nought_of(table):
    """Tell the row and the place of the first 0 of a table that has one."""
    one = [row for row, numbers in enumerate(table) if 0 in numbers][0]
    return one, table[one].index(0)


def gap_ahead(table, k):
    """Tell what shows that the power ahead of the first power k has a 0, None where k is 1."""
    if k == 1:
        return None
    one, other = nought_of(marks_of(table, k - 1))
    return one, other, tuple([set_after(table, (one,), steps) for steps in range(k)])


def why_first(table):
    """Tell a paper of a table's first power, None where it has none."""
    k = first_power(table)
    if k is None:
        return None
    places = list(range(len(table)))
    # No first power is greater than 26, so the walks have fewer steps than first_walk takes at most.
    walks = tuple([tuple([first_walk(table, one, other, k) for other in places]) for one in places])
    return k, walks, gap_ahead(table, k)
