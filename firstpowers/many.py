"""Several tables, multiplied in any order."""

from firstpowers.comings import marks_after
from firstpowers.powers import power_of_none
from firstpowers.tables import full, marks
from firstpowers.things import want_tables, want_way


def marks_along(tables, way):
    """Tell the marks of the product of the tables along a way of however many places."""
    told = power_of_none(len(tables[0]))
    for at in way:
        told = marks_after(told, tables[at])
    return told


def ways_and_nexts(tables):
    """Tell two dicts, by the marks of each product along a way, whatever its length.

    The one holds the shortest way to them, of such the least as tuples rise; the other the list,
    for each of the tables, of the marks of the product with that table behind.
    """
    ways = {}
    nexts = {}
    fresh = [((at,), marks(table)) for at, table in enumerate(tables)]
    while fresh:
        # The fresh ways are of one length and rise, so the first one to come to some marks is the least.
        later = []
        for way, each in fresh:
            if each not in ways:
                ways[each] = way
                nexts[each] = [marks_after(each, table) for table in tables]
                later.extend([(way + (at,), behind) for at, behind in enumerate(nexts[each])])
        fresh = later
    return ways, nexts


def ends_of(nexts, left):
    """Tell the list of those of left behind which none of left comes next."""
    return [each for each in left if not any([behind in left for behind in nexts[each]])]


def rounds_and_lasting(nexts):
    """Tell how often the ends of the marks with a 0 can be taken away, and a dict of those that stay.

    An end is one behind which none that is left comes next; so those that stay go on for ever.
    """
    left = {each: True for each in nexts if not full(each)}
    rounds = 0
    ends = ends_of(nexts, left)
    while ends:
        for each in ends:
            del left[each]
        rounds += 1
        ends = ends_of(nexts, left)
    return rounds, left


def along(tables, way):
    """Tell the marks of the product of the tables along a way."""
    want_tables(tables)
    want_way(tables, way)
    return marks_along(tables, way)


def full_way(tables):
    """Tell the shortest way whose product has no 0, of such the least, None where there is none."""
    want_tables(tables)
    # No shortest one has more places than a way may have: of all lists of tables it has ten at most.
    ways, nexts = ways_and_nexts(tables)
    for each, way in ways.items():
        if full(each):
            return way
    return None


def all_full_from(tables):
    """Tell the least number from 1 on such that no way of so many places has a product with a 0, None without one."""
    want_tables(tables)
    ways, nexts = ways_and_nexts(tables)
    rounds, left = rounds_and_lasting(nexts)
    # Where none stay, no table has a row or a place of noughts alone, so a full product stays full,
    # and the rounds are the places of the longest way whose product has a 0.
    return None if left else rounds + 1
