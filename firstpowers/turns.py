"""Turns: numbers for the places, by which each arrow goes on by one and comes round."""

from firstpowers.afters import step_after
from firstpowers.errors import Apart
from firstpowers.rounds import beat
from firstpowers.things import is_within, want_table
from firstpowers.walks import heads

MOST_TURNS = 6


def are_rests(thing, size, d):
    """Tell whether a thing is a tuple with a number from 0 to d - 1 for each place."""
    if not isinstance(thing, tuple) or len(thing) != size:
        return False
    return all([is_within(rest, 0, d - 1) for rest in thing])


def are_turns(table, d, rests):
    """Tell whether (d, rests) is turns of a table, whatever both are."""
    if not is_within(d, 1, MOST_TURNS) or not are_rests(rests, len(table), d):
        return False
    return all([
        rests[head] == (rests[place] + 1) % d for place in range(len(table)) for head in heads(table, place)
    ])


def steps_from_start(table):
    """Tell, for each place of a joined table, the fewest steps that lead there from place 0."""
    fewest = {0: 0}
    some = (0,)
    steps = 0
    while len(fewest) < len(table):
        some = step_after(table, some)
        steps += 1
        for place in some:
            fewest.setdefault(place, steps)
    return [fewest[place] for place in range(len(table))]


def turns_hold(table, thing):
    """Tell, of whatever is handed in, whether it is turns of a table."""
    want_table(table)
    if not isinstance(thing, tuple) or len(thing) != 2:
        return False
    return are_turns(table, thing[0], thing[1])


def turns_of(table):
    """Tell the turns of a joined table with rounds whose d is the beat, the number of place 0 being 0."""
    d = beat(table)
    if d == 0:
        raise Apart("a table with rounds is wanted")
    return d, tuple([steps % d for steps in steps_from_start(table)])
