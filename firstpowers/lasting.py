"""Papers that products of several tables have noughts however long the way is, and fences that none gets out of."""

from firstpowers.comings import marks_after
from firstpowers.many import marks_along, rounds_and_lasting, ways_and_nexts
from firstpowers.tables import full, marks
from firstpowers.things import has_table_form, is_way, rises, want_tables

MOST_PLACES = 600


def never_full(start, again):
    """Tell whether the products of the start and of one more again each time all have some 0."""
    seen = []
    now = start
    while now not in seen:
        if full(now):
            return False
        seen.append(now)
        now = marks_after(now, again)
    return True


def lasting_holds(tables, thing):
    """Tell, of whatever is handed in, whether it is a paper that some products have a 0 however long the way."""
    want_tables(tables)
    if not isinstance(thing, tuple) or len(thing) != 2:
        return False
    ahead, again = thing
    many = len(tables)
    if not is_way(ahead, many, 0, MOST_PLACES) or not is_way(again, many, 1, MOST_PLACES):
        return False
    return never_full(marks_along(tables, ahead + again), marks_along(tables, again))


def round_within(nexts, left):
    """Tell one of those that stay, and a way that leads from it back to itself by such alone."""
    gone = []
    way = []
    now = list(left)[0]
    while now not in gone:
        gone.append(now)
        way.append([at for at, behind in enumerate(nexts[now]) if behind in left][0])
        now = nexts[now][way[-1]]
    return now, tuple(way[gone.index(now):])


def why_lasting(tables):
    """Tell a paper that some products have a 0 however long the way, None where from some length on none has."""
    want_tables(tables)
    ways, nexts = ways_and_nexts(tables)
    rounds, left = rounds_and_lasting(nexts)
    if not left:
        return None
    # There are at most 512 marks of a size, so neither of both has more places than a paper may have.
    start, again = round_within(nexts, left)
    return ways[start], again


def is_post(thing, size):
    """Tell whether a thing is a table of 0 and 1 alone, of a size, with some 0."""
    return has_table_form(thing) and len(thing) == size and thing == marks(thing) and not full(thing)


def fence_holds(tables, thing):
    """Tell, of whatever is handed in, whether it is a fence of tables."""
    want_tables(tables)
    # Tables first: only then can the things be compared.
    if not isinstance(thing, tuple) or not all([is_post(each, len(tables[0])) for each in thing]):
        return False
    if not rises(thing):
        return False
    posts = {each: True for each in thing}
    if not all([marks(table) in posts for table in tables]):
        return False
    return all([marks_after(each, table) in posts for each in thing for table in tables])


def fence_of(tables):
    """Tell the fence with the fewest tables, None where there is none."""
    want_tables(tables)
    ways, nexts = ways_and_nexts(tables)
    return None if any([full(each) for each in ways]) else tuple(sorted(ways))
