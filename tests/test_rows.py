import itertools
import unittest

from firstpowers.errors import Apart, NoPlace, NoTable
from firstpowers.firsts import first_power
from firstpowers.powers import power
from firstpowers.rows import first_pair, first_pairs, first_row, meeting
from firstpowers.tables import is_table
from tests.support import (
    Case, Numbers, all_mark_tables, first_wanted, marks_one_by_one, marks_until_again, no_places, no_tables,
    round_table, shuffled, slow_table, square, table_of, tables_of_all_sorts, with_first, without_first,
)

FIBONACCI = ((0, 5), (6, 7))
# An arrow from 0 to 1 at once, but none of two steps.
SLOW = ((0, 4, 0), (0, 0, 2), (3, 1, 0))
# Rounds of two and of four places: all is joined, and no power is full.
TURNING = ((0, 1, 0, 1), (1, 0, 0, 0), (0, 1, 0, 0), (0, 0, 1, 0))
SHUT = ((1, 1), (0, 1))


def row_wanted(told, place):
    """The first of the marks whose row of a place has no nought."""
    return min([k for k, each in enumerate(told, start=1) if all(each[place])])


def pair_wanted(told, one, other):
    """The number behind that of the last marks with a nought at a row and a place."""
    noughts = [k for k, each in enumerate(told, start=1) if not each[one][other]]
    return noughts[-1] + 1 if noughts else 1


def meeting_wanted(table):
    """The first power in which any two rows meet, all marks looked at that there are."""
    for k, each in enumerate(marks_until_again(table), start=1):
        bits = [sum([number << place for place, number in enumerate(row)]) for row in each]
        if all(one & other for one, other in itertools.product(bits, repeat=2)):
            return k
    return None


def many_tables(seed):
    """Tables with a first power, many of each size from 1 to 6."""
    numbers = Numbers(seed)
    told = with_first(tables_of_all_sorts(seed, 3) + all_mark_tables(4)[::301])
    for size in range(3, 7):
        # A round, and some arrows more: slow ones, but not of the slowest alone.
        for at in range(12):
            arrows = {(place, (place + 1) % size) for place in range(size)}
            arrows |= {(numbers.below(size), numbers.below(size)) for more in range(1 + at % 3)}
            told += with_first([shuffled(numbers, table_of(size, arrows))])
    return told


def few_tables(seed):
    return many_tables(seed)[::11] + [slow_table(size) for size in range(2, 7)] + [FIBONACCI, SLOW, ((4,),)]


def none_of_each_size():
    """Tables without a first power, of each size."""
    told = [square(size, 0) for size in range(1, 7)] + [round_table(size) for size in range(2, 7)]
    return told + [TURNING, SHUT, ((1, 0), (1, 1)), ((0, 1), (0, 1))] + without_first(all_mark_tables(3))[::19]


class FirstRow(Case):
    def test_written_out(self):
        self.tells(2, first_row, FIBONACCI, 0)
        self.tells(1, first_row, FIBONACCI, 1)
        self.tells(1, first_row, ((7,),), 0)
        self.tells(5, first_row, SLOW, 0)
        self.tells(4, first_row, SLOW, 1)
        self.tells(3, first_row, SLOW, 2)

    def test_tables_of_each_size_and_slowness(self):
        tables = many_tables(201)
        self.assertEqual({len(table) for table in tables}, set(range(1, 7)))
        self.assertLessEqual({1, 2, 3, 4, 5, 6, 7, 8, 10, 17, 26}, {first_wanted(table) for table in tables})

    def test_against_powers_multiplied_one_by_one(self):
        for table in many_tables(201):
            told = marks_one_by_one(table, 40)
            for place in range(len(table)):
                self.tells(row_wanted(told, place), first_row, table, place)

    def test_the_first_power_is_the_greatest(self):
        for table in many_tables(202):
            self.assertEqual(first_wanted(table), max([first_row(table, place) for place in range(len(table))]))

    def test_full_tables(self):
        for size in range(1, 7):
            for place in range(size):
                self.tells(1, first_row, square(size, 10 ** 40), place)

    def test_no_place(self):
        for table in few_tables(203) + none_of_each_size():
            for thing in no_places(len(table)):
                self.refuses(NoPlace, first_row, table, thing)

    def test_apart(self):
        for table in none_of_each_size():
            for place in range(len(table)):
                self.refuses(Apart, first_row, table, place)

    def test_truths_though_places_like_them_were_asked(self):
        self.tells(2, first_row, FIBONACCI, 0)
        self.refuses(NoPlace, first_row, FIBONACCI, False)
        self.tells(1, first_row, FIBONACCI, 1)
        self.refuses(NoPlace, first_row, FIBONACCI, True)

    def test_no_table_ahead_of_all_else(self):
        for table in no_tables():
            for place in (0, 6, None, True):
                self.refuses(NoTable, first_row, table, place)

    def test_by_name(self):
        self.tells(2, first_row, table=FIBONACCI, place=0)
        self.tells(2, first_row, place=0, table=FIBONACCI)
        self.tells(1, first_row, FIBONACCI, place=1)


class FirstPair(Case):
    def test_written_out(self):
        self.tells(2, first_pair, FIBONACCI, 0, 0)
        self.tells(1, first_pair, FIBONACCI, 0, 1)
        self.tells(1, first_pair, FIBONACCI, 1, 0)
        self.tells(1, first_pair, ((7,),), 0, 0)

    def test_a_nought_that_comes_again(self):
        # The power 1 has no 0 at 0 and 1, but the power 2 has.
        self.assertEqual([power(SLOW, k)[0][1] == 0 for k in (1, 2, 3, 4)], [False, True, False, False])
        self.tells(3, first_pair, SLOW, 0, 1)
        # The power 3 has no 0 at 0 and 0, but the power 4 has.
        self.assertEqual([power(SLOW, k)[0][0] == 0 for k in (2, 3, 4, 5)], [True, False, True, False])
        self.tells(5, first_pair, SLOW, 0, 0)

    def test_against_powers_multiplied_one_by_one(self):
        again = 0
        for table in many_tables(204):
            told = marks_one_by_one(table, 40)
            for one, other in itertools.product(range(len(table)), repeat=2):
                wanted = pair_wanted(told, one, other)
                self.tells(wanted, first_pair, table, one, other)
                again += any(each[one][other] for each in told[:wanted - 1])
        self.assertGreater(again, 300)

    def test_from_it_on_no_power_has_a_nought_and_the_one_ahead_has(self):
        for table in few_tables(205):
            powers = [power(table, k) for k in range(61)]
            for one, other in itertools.product(range(len(table)), repeat=2):
                k = first_pair(table, one, other)
                self.assertTrue(all(each[one][other] > 0 for each in powers[k:]))
                self.assertTrue(k == 1 or powers[k - 1][one][other] == 0)

    def test_row_and_place_are_not_swapped(self):
        table = ((1, 1, 0), (0, 0, 1), (1, 0, 0))
        told = marks_one_by_one(table, 40)
        self.assertNotEqual(pair_wanted(told, 0, 2), pair_wanted(told, 2, 0))
        self.tells(pair_wanted(told, 0, 2), first_pair, table, 0, 2)
        self.tells(pair_wanted(told, 2, 0), first_pair, table, 2, 0)

    def test_no_place(self):
        for table in few_tables(206)[::3] + none_of_each_size():
            for thing in no_places(len(table)):
                self.refuses(NoPlace, first_pair, table, thing, 0)
                self.refuses(NoPlace, first_pair, table, 0, thing)
                self.refuses(NoPlace, first_pair, table, thing, thing)

    def test_apart(self):
        for table in none_of_each_size():
            for one, other in itertools.product(range(len(table)), repeat=2):
                self.refuses(Apart, first_pair, table, one, other)

    def test_truths_though_places_like_them_were_asked(self):
        self.tells(1, first_pair, FIBONACCI, 0, 1)
        for one, other in ((False, 1), (0, True), (False, True)):
            self.refuses(NoPlace, first_pair, FIBONACCI, one, other)

    def test_no_table_ahead_of_all_else(self):
        for table in no_tables():
            for one, other in ((0, 0), (6, 0), (0, 6), (None, True)):
                self.refuses(NoTable, first_pair, table, one, other)

    def test_by_name(self):
        self.tells(1, first_pair, table=FIBONACCI, one=0, other=1)
        self.tells(3, first_pair, other=1, one=0, table=SLOW)
        self.tells(3, first_pair, SLOW, 0, other=1)


class FirstPairs(Case):
    def test_written_out(self):
        self.tells(((2, 1), (1, 1)), first_pairs, FIBONACCI)
        self.tells(((1,),), first_pairs, ((7,),))
        self.tells(((5, 3, 4), (4, 2, 3), (3, 1, 2)), first_pairs, SLOW)

    def test_against_powers_multiplied_one_by_one(self):
        for table in many_tables(207):
            told = marks_one_by_one(table, 40)
            places = range(len(table))
            wanted = tuple([tuple([pair_wanted(told, one, other) for other in places]) for one in places])
            self.tells(wanted, first_pairs, table)

    def test_they_are_those_of_first_pair_and_a_table(self):
        for table in few_tables(208):
            told = self.ask(first_pairs, table)
            self.assertTrue(is_table(told))
            for one, other in itertools.product(range(len(table)), repeat=2):
                self.tells(told[one][other], first_pair, table, one, other)

    def test_the_first_power_is_the_greatest(self):
        for table in many_tables(209):
            self.assertEqual(first_wanted(table), max(map(max, first_pairs(table))))

    def test_what_was_told_may_be_handed_in_again(self):
        # The numbers told are all above 0, so the table of them is full at once.
        for table in few_tables(210):
            self.tells(square(len(table), 1), first_pairs, first_pairs(table))

    def test_apart(self):
        for table in none_of_each_size():
            self.refuses(Apart, first_pairs, table)

    def test_no_table(self):
        for thing in no_tables():
            self.refuses(NoTable, first_pairs, thing)

    def test_by_name(self):
        self.tells(((2, 1), (1, 1)), first_pairs, table=FIBONACCI)


class Meeting(Case):
    def test_written_out(self):
        self.tells(1, meeting, FIBONACCI)
        self.tells(1, meeting, ((7,),))
        self.tells(None, meeting, ((0,),))
        self.tells(3, meeting, SLOW)
        self.tells(None, meeting, TURNING)
        self.tells(1, meeting, SHUT)

    def test_without_a_first_power(self):
        self.tells(1, meeting, ((1, 0), (1, 0)))
        self.tells(2, meeting, ((0, 1, 0), (0, 0, 1), (0, 0, 1)))
        self.tells(3, meeting, table_of(4, {(0, 1), (1, 2), (2, 3), (3, 3)}))

    def test_a_row_of_noughts_does_not_meet_itself(self):
        self.tells(None, meeting, ((1, 1), (0, 0)))
        self.tells(None, meeting, ((0, 1), (0, 0)))
        for size in range(1, 7):
            self.tells(None, meeting, square(size, 0))
            self.tells(None, meeting, square(size, 1)[:-1] + ((0,) * size,))

    def test_by_turns(self):
        for size in range(2, 7):
            self.tells(None, meeting, round_table(size))
        for size in (2, 4, 6):
            half = {(i, j) for i in range(size) for j in range(size) if (i + j) % 2}
            self.tells(None, meeting, table_of(size, half))

    def test_rows_meet_not_places(self):
        # All rows have place 0; all places but 0 are empty.
        self.tells(1, meeting, ((1, 0, 0), (1, 0, 0), (1, 0, 0)))
        self.tells(None, meeting, ((1, 1, 1), (0, 0, 0), (0, 0, 0)))

    def test_against_powers_multiplied_until_marks_come_again(self):
        told = set()
        for table in tables_of_all_sorts(211, 3) + all_mark_tables(4)[::101] + many_tables(212):
            wanted = meeting_wanted(table)
            self.tells(wanted, meeting, table)
            told.add((wanted is None, first_wanted(table) is None))
        self.assertEqual(told, {(False, False), (False, True), (True, True)})

    def test_slow_tables(self):
        for size in range(2, 7):
            self.tells(meeting_wanted(slow_table(size)), meeting, slow_table(size))
            self.assertGreater(meeting(slow_table(size)), size - 2)

    def test_no_greater_than_the_first_power(self):
        for table in many_tables(213):
            self.assertLessEqual(meeting(table), first_power(table))

    def test_no_table(self):
        for thing in no_tables():
            self.refuses(NoTable, meeting, thing)

    def test_by_name(self):
        self.tells(3, meeting, table=SLOW)


if __name__ == "__main__":
    unittest.main()
