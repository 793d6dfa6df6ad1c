"""Where walks from a set of places have come to after so many steps."""

from firstpowers.things import want_number, want_set, want_table

MOST_STEPS = 10 ** 9


def step_after(table, some):
    """Tell the rising tuple of the places to which an arrow goes from one of some."""
    return tuple([head for head in range(len(table)) if any([table[place][head] != 0 for place in some])])


def set_after(table, some, k):
    """Tell the rising tuple of the places to which a walk of so many steps leads from one of some."""
    want_table(table)
    want_set(table, some)
    want_number(k, 0, MOST_STEPS)
    sets = [some]
    while len(sets) <= k:
        later = step_after(table, sets[-1])
        if later in sets:
            # From here on the sets come round, so the rest of the steps is only counted.
            start = sets.index(later)
            return sets[start + (k - start) % (len(sets) - start)]
        sets.append(later)
    return sets[k]
