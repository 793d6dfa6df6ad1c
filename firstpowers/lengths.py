"""Lengths: which numbers are sums of them, and how."""

from firstpowers.errors import Apart
from firstpowers.rounds import greatest_into
from firstpowers.things import want_lengths, want_number

MOST_NUMBER = 1000


def made_up_to(lengths, number):
    """Tell the list, for each number from 0 to this one, of whether it is made by lengths, perhaps by none."""
    made = [True]
    for each in range(1, number + 1):
        made.append(any([length <= each and made[each - length] for length in lengths]))
    return made


def made_by(lengths, number):
    """Tell whether a number is made by lengths."""
    want_lengths(lengths)
    want_number(number, 0, MOST_NUMBER)
    return made_up_to(lengths, number)[number]


def last_unmade(lengths):
    """Tell the greatest number that is not made by lengths, -1 where all are."""
    want_lengths(lengths)
    into = 0
    for length in lengths:
        into = greatest_into(into, length)
    if into > 1:
        raise Apart("lengths into all of which only 1 goes are wanted")
    # Each rest by the least length is that of a sum of fewer lengths than the least one says,
    # so from the least times the greatest on all is made.
    made = made_up_to(lengths, lengths[0] * lengths[-1])
    return max([-1] + [number for number, is_made in enumerate(made) if not is_made])


def counts_for(lengths, number):
    """Tell how often each length is taken to make a number, the least of such tuples, None where it is not made."""
    want_lengths(lengths)
    want_number(number, 0, MOST_NUMBER)
    if not made_up_to(lengths, number)[number]:
        return None
    counts = []
    left = number
    for at, length in enumerate(lengths):
        # The least tuple takes of each length as few as the lengths behind it can make good.
        made_behind = made_up_to(lengths[at + 1:], left)
        many = 0
        while not made_behind[left]:
            left -= length
            many += 1
        counts.append(many)
    return tuple(counts)
