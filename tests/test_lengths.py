import itertools
import math
import time
import unittest

from firstpowers.errors import Apart, NoLengths, NoNumber
from firstpowers.lengths import counts_for, last_unmade, made_by
from firstpowers.walks import walks_many
from tests.support import Case, alike, in_tuples, no_numbers, no_tables, table_of, whatever

ALL_LENGTHS = [some for many in range(1, 7) for some in itertools.combinations(range(1, 13), many)]
FEW_LENGTHS = ALL_LENGTHS[::83] + [
    (1,), (12,), (2,), (1, 12), (11, 12), (5, 12), (2, 4), (3, 6, 9), (6, 10), (6, 9, 12), (4, 6, 9), (6, 10, 11),
    (1, 2, 3, 4, 5, 6), (7, 8, 9, 10, 11, 12), (2, 4, 6, 8, 10, 12), (3, 5, 7), (2, 11),
]
MOST = 1000


def sums_up_to(lengths, most):
    """All sums of lengths up to some number, made step by step from 0."""
    told = [0]
    for each in told:
        told += [each + length for length in lengths if each + length <= most and each + length not in told]
    return set(told)


def all_counts(lengths, number):
    """All tuples of how often each length is taken to make a number, rising."""
    ranges = [range(number // length + 1) for length in lengths]
    return [
        counts for counts in itertools.product(*ranges)
        if sum(many * length for many, length in zip(counts, lengths)) == number
    ]


def counts_up_to(lengths, most):
    """The least counts of each number, from those of the numbers that are one length less."""
    told = {0: (0,) * len(lengths)}
    for number in range(1, most + 1):
        ways = [
            told[number - length][:at] + (told[number - length][at] + 1,) + told[number - length][at + 1:]
            for at, length in enumerate(lengths) if number - length in told
        ]
        if ways:
            told[number] = min(ways)
    return told


def no_lengths():
    """Things that are no lengths."""
    near = [
        (), (0,), (13,), (-1,), (100,), (0, 1), (1, 13), (1, 2, 13), (0, 12), (-1, 1), (10 ** 30,),
        (2, 1), (3, 2), (1, 3, 2), (12, 11), (1, 1), (5, 5), (1, 2, 2), (2, 2, 3), (12, 12),
        (1, 2, 3, 4, 5, 6, 7), (6, 7, 8, 9, 10, 11, 12), tuple(range(1, 13)), tuple(range(13)), (6, 5, 4, 3, 2, 1),
        [1], [2, 3], [1, 2, 3, 4, 5, 6], {1: 2}, {2: 3, 3: 4}, "2", "23", "2 3", ((2, 3),), ([2, 3],), ((2,),),
        (True,), (True, 2), (True, 2, 3), (False,), (False, 1), (1, True), (2, None), (None, 2), (2, "3"), ("2", 3),
        (2, (3,)), (2, [3]), (2, {}), 2, 23, None, True,
    ]
    return near + whatever() + [thing for thing in in_tuples() if thing != (7, 8)] + no_tables()


class MadeBy(Case):
    def test_written_out(self):
        for number, wanted in enumerate((True, False, False, True, False, True, True, False, True, True, True)):
            self.tells(wanted, made_by, (3, 5), number)
        self.tells(True, made_by, (12,), 996)
        self.tells(False, made_by, (12,), 1000)
        self.tells(True, made_by, (1,), 1)

    def test_nought_is_made_of_none(self):
        for lengths in FEW_LENGTHS:
            self.tells(True, made_by, lengths, 0)

    def test_each_number_against_sums_made_step_by_step(self):
        for lengths in FEW_LENGTHS + ALL_LENGTHS[::29]:
            made = sums_up_to(lengths, 130)
            for number in range(131):
                self.assertIs(self.ask(made_by, lengths, number), number in made)

    def test_greater_numbers(self):
        for lengths in FEW_LENGTHS:
            into = math.gcd(*lengths)
            for number in (500, 719, 720, 721, 989, 997, 998, 999, 1000):
                # All lengths are below 13, so from 132 on all is made that can be.
                self.tells(number % into == 0, made_by, lengths, number)

    def test_in_little_time(self):
        start = time.process_time()
        for lengths in ((1, 2, 3, 4, 5, 6), (7, 8, 9, 10, 11, 12), (2, 4, 6, 8, 10, 12), (11, 12)):
            for number in range(960, 1001):
                made_by(lengths, number)
        self.assertLess(time.process_time() - start, 30)

    def test_no_number(self):
        for lengths in ((1,), (3, 5), (2, 4), (1, 2, 3, 4, 5, 6)):
            for thing in no_numbers(0, MOST):
                self.refuses(NoNumber, made_by, lengths, thing)

    def test_truths_though_numbers_like_them_were_asked(self):
        self.tells(True, made_by, (1, 2), 1)
        self.refuses(NoNumber, made_by, (1, 2), True)
        self.refuses(NoLengths, made_by, (True, 2), 1)
        self.refuses(NoNumber, made_by, (1, 2), False)

    def test_no_lengths_ahead_of_no_number(self):
        for lengths in no_lengths():
            for number in (0, 5, -1, MOST + 1, None, True):
                self.refuses(NoLengths, made_by, lengths, number)

    def test_bounds_of_lengths(self):
        for lengths in ALL_LENGTHS:
            self.assertIs(self.ask(made_by, lengths, lengths[0]), True)

    def test_by_name(self):
        self.tells(False, made_by, lengths=(3, 5), number=7)
        self.tells(True, made_by, number=8, lengths=(3, 5))
        self.tells(True, made_by, (3, 5), number=8)


class LastUnmade(Case):
    def test_written_out(self):
        self.tells(7, last_unmade, (3, 5))
        self.tells(109, last_unmade, (11, 12))
        self.tells(43, last_unmade, (5, 12))
        self.tells(11, last_unmade, (4, 6, 9))
        self.tells(1, last_unmade, (2, 3))
        self.tells(9, last_unmade, (2, 11))

    def test_all_are_made(self):
        self.tells(-1, last_unmade, (1,))
        for lengths in ALL_LENGTHS:
            if lengths[0] == 1:
                self.assertEqual(self.ask(last_unmade, lengths), -1)

    def test_all_lengths_against_sums_made_step_by_step(self):
        seen = set()
        for lengths in ALL_LENGTHS[:800] + ALL_LENGTHS[800::5]:
            if math.gcd(*lengths) > 1:
                self.refuses(Apart, last_unmade, lengths)
            else:
                wanted = max(set(range(-1, 200)) - sums_up_to(lengths, 199))
                self.tells(wanted, last_unmade, lengths)
                seen.add(wanted)
        self.assertGreater(len(seen), 40)

    def test_it_is_not_made_and_all_greater_ones_are(self):
        for lengths in FEW_LENGTHS:
            if math.gcd(*lengths) == 1:
                last = last_unmade(lengths)
                self.assertTrue(last == -1 or made_by(lengths, last) is False)
                self.assertTrue(all(made_by(lengths, number) for number in range(last + 1, last + 30)))

    def test_apart(self):
        for lengths in ((2,), (12,), (2, 4), (6, 10), (6, 9, 12), (3, 6, 9, 12), (5, 10), (2, 4, 6, 8, 10, 12)):
            self.refuses(Apart, last_unmade, lengths)

    def test_two_by_two_something_goes_into_them_but_not_into_all(self):
        self.tells(max(set(range(200)) - sums_up_to((6, 10, 11), 199)), last_unmade, (6, 10, 11))
        self.tells(11, last_unmade, (4, 6, 9))
        self.refuses(Apart, last_unmade, (4, 6, 8))

    def test_no_lengths(self):
        for thing in no_lengths():
            self.refuses(NoLengths, last_unmade, thing)

    def test_by_name(self):
        self.tells(7, last_unmade, lengths=(3, 5))


class CountsFor(Case):
    def test_written_out(self):
        self.tells((1, 1), counts_for, (3, 5), 8)
        self.tells((0, 3), counts_for, (3, 5), 15)
        self.tells(None, counts_for, (3, 5), 7)
        self.tells((0, 0, 2), counts_for, (1, 3, 4), 8)
        self.tells((0, 2, 0), counts_for, (1, 3, 4), 6)
        self.tells((1, 0, 1), counts_for, (1, 3, 4), 5)
        self.tells((1000,), counts_for, (1,), 1000)
        self.tells((83,), counts_for, (12,), 996)
        self.tells(None, counts_for, (12,), 1000)

    def test_nought(self):
        for lengths in FEW_LENGTHS:
            self.tells((0,) * len(lengths), counts_for, lengths, 0)

    def test_small_numbers_against_all_counts_gone_through(self):
        several = 0
        for lengths in FEW_LENGTHS[::3] + [(1, 2), (2, 3), (1, 2, 3), (2, 3, 4), (4, 6, 9), (1, 3, 4)]:
            for number in range(25 if len(lengths) < 5 else 14):
                ways = all_counts(lengths, number)
                self.tells(min(ways) if ways else None, counts_for, lengths, number)
                several += len(ways) > 1
        self.assertGreater(several, 100)

    def test_greater_numbers_against_those_one_length_less(self):
        for lengths in FEW_LENGTHS:
            wanted = counts_up_to(lengths, MOST)
            for number in [*range(0, 60), *range(60, 990, 97), *range(990, 1001)]:
                self.assertTrue(alike(wanted.get(number), self.ask(counts_for, lengths, number)))

    def test_they_make_the_number_just_where_it_is_made(self):
        for lengths in ALL_LENGTHS[::71]:
            for number in (1, 7, 23, 59, 60, 131, 500, 997, 1000):
                told = self.ask(counts_for, lengths, number)
                self.assertEqual(told is not None, made_by(lengths, number))
                if told is not None:
                    self.assertEqual(sum(many * length for many, length in zip(told, lengths, strict=True)), number)

    def test_in_little_time(self):
        start = time.process_time()
        for lengths in ((1, 2, 3, 4, 5, 6), (7, 8, 9, 10, 11, 12), (2, 4, 6, 8, 10, 12), (11, 12)):
            for number in range(960, 1001):
                counts_for(lengths, number)
        self.assertLess(time.process_time() - start, 60)

    def test_no_number(self):
        for lengths in ((1,), (3, 5), (2, 4), (1, 2, 3, 4, 5, 6)):
            for thing in no_numbers(0, MOST):
                self.refuses(NoNumber, counts_for, lengths, thing)

    def test_truths_though_numbers_like_them_were_asked(self):
        self.tells((1, 0), counts_for, (1, 2), 1)
        self.refuses(NoNumber, counts_for, (1, 2), True)
        self.refuses(NoLengths, counts_for, (True, 2), 1)

    def test_no_lengths_ahead_of_no_number(self):
        for lengths in no_lengths():
            for number in (0, 5, -1, MOST + 1, None, True):
                self.refuses(NoLengths, counts_for, lengths, number)

    def test_by_name(self):
        self.tells((1, 1), counts_for, lengths=(3, 5), number=8)
        self.tells(None, counts_for, number=7, lengths=(3, 5))
        self.tells((1, 1), counts_for, (3, 5), number=8)


class WalksBack(Case):
    def test_a_place_on_rounds_of_these_lengths(self):
        # Of point 7.4: place 0 lies on a round of each of the lengths, and on no others.
        for lengths, arrows in (
            ((2, 3), {(0, 1), (1, 0), (1, 2), (2, 0)}),
            ((1, 4), {(0, 0), (0, 1), (1, 2), (2, 3), (3, 0)}),
            ((3, 5), {(0, 1), (1, 2), (2, 0), (2, 3), (3, 4), (4, 0)}),
            ((2, 4), {(0, 1), (1, 0), (1, 2), (2, 3), (3, 0)}),
            ((4, 6), {(0, 1), (1, 2), (2, 3), (3, 0), (3, 4), (4, 5), (5, 0)}),
        ):
            table = table_of(6, arrows)
            for steps in range(41):
                self.assertEqual(made_by(lengths, steps), walks_many(table, 0, 0, steps) > 0)


if __name__ == "__main__":
    unittest.main()
