"""Shut sets of a table's places: those that no arrow leads out of."""

from firstpowers.afters import step_after
from firstpowers.pieces import reaches
from firstpowers.things import want_set, want_table


def keeps_arrows(table, some):
    """Tell whether no arrow goes from one of some places to a place that is none of them."""
    return all([head in some for head in step_after(table, some)])


def all_sets(size):
    """Tell the list of all sets of the places of a size, as tuples rise."""
    told = [()]
    for place in range(size):
        told = told + [some + (place,) for some in told]
    return sorted(told)


def is_shut(table, some):
    """Tell whether a set is shut."""
    want_table(table)
    want_set(table, some)
    return keeps_arrows(table, some)


def shut_sets(table):
    """Tell the list of all shut sets, as tuples rise."""
    want_table(table)
    return [some for some in all_sets(len(table)) if keeps_arrows(table, some)]


def closure(table, some):
    """Tell the shut set, of the fewest places, in which each of some is."""
    want_table(table)
    want_set(table, some)
    come = reaches(table)
    return tuple([other for other in range(len(table)) if any([come[one][other] for one in some])])
