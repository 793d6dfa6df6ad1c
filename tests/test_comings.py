import unittest

from firstpowers.comings import all_marks, ever_full, marks_of, round_of, same_marks
from firstpowers.errors import NoNumber, NoTable
from firstpowers.firsts import first_power
from tests.support import (
    Case, Numbers, all_mark_tables, first_wanted, marks_one_by_one, marks_wanted, no_numbers, no_tables, round_table,
    slow_table, square, table_of, tables_of_all_sorts, times,
)

MOST = 10 ** 30
# Rounds of 2 and of 3 places, and a place that leads into the one.
TWO_ROUNDS = table_of(6, {(0, 1), (1, 0), (2, 3), (3, 4), (4, 2), (5, 0)})
# Two steps lead from 0 to 2, and none further.
PATH = table_of(3, {(0, 1), (1, 2)})


def marks_by_squares(table, k):
    """The marks of the power k, by squaring the table again and again."""
    size = len(table)
    told = table_of(size, {(place, place) for place in range(size)})
    square_now = marks_wanted(table)
    while k:
        if k % 2:
            told = times(told, square_now)
        square_now = times(square_now, square_now)
        k //= 2
    return told


def round_wanted(table):
    """How the marks come round, all of the first hundred powers looked at."""
    told = marks_one_by_one(table, 100)
    ahead = min([k for k in range(1, 51) if told[k - 1] in told[k:]])
    long = min([k for k in range(1, 50) if told[ahead + k - 1] == told[ahead - 1]])
    return ahead, long


def many_tables(seed):
    return tables_of_all_sorts(seed, 2) + all_mark_tables(4)[::701] + [TWO_ROUNDS, PATH]


def few_tables(seed):
    return tables_of_all_sorts(seed, 1)[::17] + [TWO_ROUNDS, PATH, slow_table(6), round_table(5)]


class RoundOf(Case):
    def test_written_out(self):
        self.tells((1, 1), round_of, ((0,),))
        self.tells((1, 1), round_of, ((9,),))
        self.tells((1, 2), round_of, ((0, 1), (1, 0)))
        self.tells((2, 1), round_of, ((0, 1), (1, 1)))
        self.tells((2, 1), round_of, ((0, 1), (0, 0)))
        self.tells((3, 1), round_of, PATH)
        self.tells((1, 6), round_of, TWO_ROUNDS)

    def test_rounds(self):
        for size in range(1, 7):
            self.tells((1, size), round_of, round_table(size))

    def test_full_and_empty_tables(self):
        for size in range(1, 7):
            self.tells((1, 1), round_of, square(size, 0))
            self.tells((1, 1), round_of, square(size, 10 ** 40))

    def test_paths(self):
        for size in range(1, 7):
            self.tells((size, 1), round_of, table_of(size, {(place, place + 1) for place in range(size - 1)}))

    def test_slow_tables(self):
        for size in range(2, 7):
            self.tells(((size - 1) ** 2 + 1, 1), round_of, slow_table(size))

    def test_many(self):
        for table in many_tables(101):
            self.tells(round_wanted(table), round_of, table)

    def test_no_table(self):
        for thing in no_tables():
            self.refuses(NoTable, round_of, thing)

    def test_by_name(self):
        self.tells((1, 6), round_of, table=TWO_ROUNDS)


class AllMarks(Case):
    def test_written_out(self):
        self.tells([((0,),)], all_marks, ((0,),))
        self.tells([((1,),)], all_marks, ((9,),))
        self.tells([((0, 1), (1, 0)), ((1, 0), (0, 1))], all_marks, ((0, 4), (3, 0)))
        self.tells([((0, 1), (1, 1)), ((1, 1), (1, 1))], all_marks, ((0, 5), (6, 7)))
        self.tells([((0, 1), (0, 0)), ((0, 0), (0, 0))], all_marks, ((0, 2), (0, 0)))

    def test_many(self):
        for table in many_tables(102):
            ahead, long = round_wanted(table)
            self.tells(marks_one_by_one(table, ahead + long - 1), all_marks, table)

    def test_each_once_and_all_that_there_are(self):
        for table in many_tables(103):
            told = all_marks(table)
            self.assertEqual(len(told), len(set(told)))
            self.assertEqual(set(told), set(marks_one_by_one(table, 100)))

    def test_lists_are_the_asker_s_own(self):
        wanted = marks_one_by_one(TWO_ROUNDS, 6)
        told = all_marks(TWO_ROUNDS)
        told.reverse()
        told.append(None)
        self.tells(wanted, all_marks, TWO_ROUNDS)
        self.tells((1, 6), round_of, TWO_ROUNDS)
        self.tells(wanted[0], marks_of, TWO_ROUNDS, 7)
        self.assertIsNot(all_marks(TWO_ROUNDS), all_marks(TWO_ROUNDS))

    def test_no_table(self):
        for thing in no_tables():
            self.refuses(NoTable, all_marks, thing)

    def test_by_name(self):
        self.tells([((1,),)], all_marks, table=((2,),))


class MarksOf(Case):
    def test_written_out(self):
        self.tells(((0, 1), (1, 1)), marks_of, ((0, 5), (6, 7)), 1)
        self.tells(((1, 1), (1, 1)), marks_of, ((0, 5), (6, 7)), 2)
        self.tells(((1, 1), (1, 1)), marks_of, ((0, 5), (6, 7)), MOST)
        self.tells(((1, 0), (0, 1)), marks_of, ((0, 2), (2, 0)), MOST)
        self.tells(((0, 1), (1, 0)), marks_of, ((0, 2), (2, 0)), MOST - 1)
        self.tells(square(3, 0), marks_of, PATH, MOST)

    def test_rounds_of_very_many_steps(self):
        for size in range(1, 7):
            for k in (MOST, MOST - 1, MOST - 5, 10 ** 18 + 7):
                wanted = table_of(size, {(place, (place + k) % size) for place in range(size)})
                self.tells(wanted, marks_of, round_table(size), k)

    def test_small_numbers_one_by_one(self):
        for table in many_tables(104)[::3] + [TWO_ROUNDS, PATH, slow_table(6)]:
            for k, wanted in enumerate(marks_one_by_one(table, 45), start=1):
                self.tells(wanted, marks_of, table, k)

    def test_great_numbers(self):
        for table in few_tables(105):
            for k in (10 ** 9, 10 ** 15 + 11, MOST - 59, MOST - 1, MOST):
                self.tells(marks_by_squares(table, k), marks_of, table, k)

    def test_no_number(self):
        for table in (((0,),), ((1,),), TWO_ROUNDS, square(4, 1)):
            for thing in no_numbers(1, MOST):
                self.refuses(NoNumber, marks_of, table, thing)

    def test_truths_though_numbers_like_them_were_asked(self):
        self.tells(((1,),), marks_of, ((1,),), 1)
        self.refuses(NoNumber, marks_of, ((1,),), True)
        self.refuses(NoNumber, marks_of, ((1,),), False)

    def test_no_table_ahead_of_no_number(self):
        for table in no_tables():
            for k in (1, 0, None, True, MOST + 1):
                self.refuses(NoTable, marks_of, table, k)

    def test_by_name(self):
        self.tells(((1, 0), (0, 1)), marks_of, table=((0, 1), (1, 0)), k=2)
        self.tells(((1, 0), (0, 1)), marks_of, k=2, table=((0, 1), (1, 0)))
        self.tells(((1, 0), (0, 1)), marks_of, ((0, 1), (1, 0)), k=2)


class SameMarks(Case):
    def test_written_out(self):
        self.tells(True, same_marks, ((0, 5), (6, 7)), 2, 3)
        self.tells(False, same_marks, ((0, 5), (6, 7)), 1, 2)
        self.tells(False, same_marks, ((0, 5), (6, 7)), 2, 1)
        self.tells(True, same_marks, ((0, 5), (6, 7)), MOST, 2)
        self.tells(True, same_marks, TWO_ROUNDS, 1, 7)
        self.tells(False, same_marks, TWO_ROUNDS, 1, 4)

    def test_small_numbers_one_by_one(self):
        for table in few_tables(106):
            told = marks_one_by_one(table, 33)
            for one in range(1, 34):
                for other in range(1, 34, 2):
                    self.tells(told[one - 1] == told[other - 1], same_marks, table, one, other)

    def test_great_numbers(self):
        for table in few_tables(107):
            for one, other in ((1, MOST), (MOST, MOST), (MOST - 6, MOST), (MOST, MOST - 1), (MOST - 4, 10 ** 18)):
                wanted = marks_by_squares(table, one) == marks_by_squares(table, other)
                self.tells(wanted, same_marks, table, one, other)

    def test_rounds_of_very_many_steps(self):
        for size in range(1, 7):
            for k in range(1, 13):
                self.tells(k % size == 0, same_marks, round_table(size), MOST - k, MOST)

    def test_no_number(self):
        for table in (((0,),), TWO_ROUNDS):
            for thing in no_numbers(1, MOST):
                for good in (1, 5, MOST):
                    self.refuses(NoNumber, same_marks, table, thing, good)
                    self.refuses(NoNumber, same_marks, table, good, thing)
                self.refuses(NoNumber, same_marks, table, thing, thing)

    def test_no_table_ahead_of_no_number(self):
        for table in no_tables():
            for one, other in ((1, 1), (0, 1), (1, 0), (None, None), (True, MOST + 1)):
                self.refuses(NoTable, same_marks, table, one, other)

    def test_by_name(self):
        self.tells(True, same_marks, table=TWO_ROUNDS, one=1, other=7)
        self.tells(False, same_marks, other=8, one=1, table=TWO_ROUNDS)
        self.tells(True, same_marks, TWO_ROUNDS, 2, other=8)


class EverFull(Case):
    def test_written_out(self):
        self.tells(True, ever_full, ((0, 1), (1, 1)))
        self.tells(False, ever_full, ((0, 1), (1, 0)))
        self.tells(False, ever_full, ((0,),))
        self.tells(True, ever_full, ((1,),))
        self.tells(False, ever_full, ((1, 1), (0, 1)))

    def test_of_each_size(self):
        for size in range(1, 7):
            self.tells(True, ever_full, square(size, 2))
            self.tells(False, ever_full, square(size, 0))
            if size > 1:
                self.tells(True, ever_full, slow_table(size))
                self.tells(False, ever_full, round_table(size))

    def test_just_where_there_is_a_first_power(self):
        some = 0
        for table in many_tables(108) + Numbers(109).tables(3):
            wanted = first_wanted(table)
            self.tells(wanted is not None, ever_full, table)
            self.tells(wanted, first_power, table)
            if wanted is not None:
                self.tells((wanted, 1), round_of, table)
                some += 1
        self.assertGreater(some, 100)

    def test_no_table(self):
        for thing in no_tables():
            self.refuses(NoTable, ever_full, thing)

    def test_by_name(self):
        self.tells(True, ever_full, table=((1,),))


if __name__ == "__main__":
    unittest.main()
