"""Walks along a table's arrows: what they are worth, how many there are, and each by its number."""

from firstpowers.errors import NoWalk
from firstpowers.things import are_places, want_number, want_place, want_table

MOST_STEPS = 40


def heads(table, place):
    """Tell, rising, the places to which an arrow goes from a place."""
    return [head for head, number in enumerate(table[place]) if number != 0]


def has_walk_form(table, thing):
    """Tell whether a thing is a walk of a table."""
    if not are_places(thing, len(table)) or thing == ():
        return False
    return all([table[one][other] != 0 for one, other in zip(thing, thing[1:])])


def want_walk(table, thing):
    """Refuse what is no walk of a table."""
    if not has_walk_form(table, thing):
        raise NoWalk("a walk is a tuple of places, an arrow of the table going from each to the next one")


def want_ends_and_steps(table, one, other, k):
    """Refuse what is no question for walks between two places."""
    want_table(table)
    want_place(table, one)
    want_place(table, other)
    want_number(k, 0, MOST_STEPS)


def counts_to(table, other, k):
    """Tell the list, by how many steps are left, of how many walks lead from each place to the other one."""
    size = len(table)
    counts = [[1 if place == other else 0 for place in range(size)]]
    for left in range(k):
        counts.append([sum([counts[left][head] for head in heads(table, place)]) for place in range(size)])
    return counts


def next_place(table, place, ahead, number):
    """Tell where the walk of a number goes from a place, and its number among those that go there."""
    ways = heads(table, place)
    at = 0
    while number >= ahead[ways[at]]:
        number -= ahead[ways[at]]
        at += 1
    return ways[at], number


def walk_of_number(table, one, counts, number):
    """Tell the walk of a number among those that the counts are of."""
    walk = [one]
    for ahead in reversed(counts[:-1]):
        place, number = next_place(table, walk[-1], ahead, number)
        walk.append(place)
    return tuple(walk)


def is_walk(table, thing):
    """Tell, of whatever is handed in, whether it is a walk of a table."""
    want_table(table)
    return has_walk_form(table, thing)


def worth_of(table, walk):
    """Tell the product of the numbers of a walk's arrows."""
    want_table(table)
    want_walk(table, walk)
    worth = 1
    for one, other in zip(walk, walk[1:]):
        worth *= table[one][other]
    return worth


def walks_many(table, one, other, k):
    """Tell how many walks of so many steps lead from the one place to the other."""
    want_ends_and_steps(table, one, other, k)
    return counts_to(table, other, k)[k][one]


def first_walk(table, one, other, k):
    """Tell the first of the walks of so many steps, None where there is none."""
    want_ends_and_steps(table, one, other, k)
    counts = counts_to(table, other, k)
    return walk_of_number(table, one, counts, 0) if counts[k][one] > 0 else None


def nth_walk(table, one, other, k, number):
    """Tell the walk of a number, from 0, among those of so many steps."""
    want_ends_and_steps(table, one, other, k)
    counts = counts_to(table, other, k)
    want_number(number, 0, counts[k][one] - 1)
    return walk_of_number(table, one, counts, number)


def place_of_walk(table, walk):
    """Tell a walk's number among those with its ends and its steps."""
    want_table(table)
    want_walk(table, walk)
    left = len(walk) - 1
    if left > MOST_STEPS:
        raise NoWalk("a walk of at most 40 steps is wanted")
    counts = counts_to(table, walk[-1], left)
    number = 0
    for one, other in zip(walk, walk[1:]):
        left -= 1
        number += sum([counts[left][head] for head in heads(table, one) if head < other])
    return number
