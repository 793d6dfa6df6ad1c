"""Rounds along a table's arrows, and the beat that goes into all of them."""

from firstpowers.errors import Apart
from firstpowers.pieces import joined
from firstpowers.things import are_places, want_table
from firstpowers.walks import has_walk_form, heads


def greatest_into(one, other):
    """Tell the greatest number that goes into both; 0 where both are 0."""
    while other != 0:
        one, other = other, one % other
    return one


def is_round(table, thing):
    """Tell, of whatever is handed in, whether it is a round of a table."""
    want_table(table)
    if not are_places(thing, len(table)) or thing == ():
        return False
    if thing[0] != min(thing) or len(set(thing)) != len(thing):
        return False
    return has_walk_form(table, thing + thing[:1])


def all_rounds(table):
    """Tell the list of all rounds, as tuples rise."""
    want_table(table)
    told = []
    paths = [(place,) for place in range(len(table))]
    while paths:
        told = told + [path for path in paths if table[path[-1]][path[0]] != 0]
        # A round is begun at its least place, so a path goes on to greater ones alone.
        paths = [
            path + (head,) for path in paths for head in heads(table, path[-1])
            if head > path[0] and head not in path
        ]
    return sorted(told)


def beat(table):
    """Tell the greatest number that goes into the lengths of all rounds of a joined table, 0 without rounds."""
    if not joined(table):
        raise Apart("a table of one piece alone is wanted")
    told = 0
    for each in all_rounds(table):
        told = greatest_into(told, len(each))
    return told
