"""Papers that no power of a table is without a nought."""

from firstpowers.rounds import beat
from firstpowers.shuts import keeps_arrows, shut_sets
from firstpowers.things import is_set, want_table
from firstpowers.turns import are_turns, turns_of


def shows_by_shut(table, some):
    """Tell whether a thing is a shut set that is not () and has not all places."""
    return is_set(some, len(table)) and 0 < len(some) < len(table) and keeps_arrows(table, some)


def shows_by_turns(table, d, rests):
    """Tell whether (d, rests) is turns with d 2 or more, whatever both are."""
    return are_turns(table, d, rests) and d >= 2


def never_holds(table, thing):
    """Tell, of whatever is handed in, whether it is a paper that a table has no first power."""
    want_table(table)
    if not isinstance(thing, tuple):
        return False
    if len(thing) == 2 and thing[0] == "shut":
        return shows_by_shut(table, thing[1])
    if len(thing) == 3 and thing[0] == "turns":
        return shows_by_turns(table, thing[1], thing[2])
    return False


def why_never(table):
    """Tell a paper that a table has no first power, None where it has one."""
    for some in shut_sets(table):
        if 0 < len(some) < len(table):
            return "shut", some
    # Without such a set the table is joined, so it has a beat.
    d = beat(table)
    if d == 0:
        # The one joined table without rounds has no arrow, so any turns hold for it.
        return "turns", 2, (0,)
    return ("turns",) + turns_of(table) if d >= 2 else None
