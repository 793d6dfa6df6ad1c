import collections
import itertools
import unittest

from firstpowers.errors import NoNumber, NoTable, TooGreat
from firstpowers.firsts import first_power
from firstpowers.kinds import by_first, least_alike, slowest_tables
from firstpowers.slow import slow_table, slowest_power
from firstpowers.tables import marks, renamed
from tests.support import (
    Case, Numbers, all_mark_tables, first_wanted, marks_wanted, no_numbers, no_tables, renamed_wanted, round_table,
    square, tables_of_all_sorts, whatever,
)


def least_wanted(table):
    """The least of the marks of all renamed ones, all orders gone through."""
    orders = itertools.permutations(range(len(table)))
    return min([renamed_wanted(marks_wanted(table), order) for order in orders])


def counts_wanted(size):
    counts = collections.Counter([first_wanted(table) or 0 for table in all_mark_tables(size)])
    return sorted(counts.items())


def slowest_wanted(size):
    firsts = {table: first_wanted(table) or 0 for table in all_mark_tables(size)}
    slowest = max(firsts.values())
    return sorted({least_wanted(table) for table, first in firsts.items() if first == slowest})


def tables_to_rename(seed):
    """Tables of one to five places, of all sorts."""
    return [table for table in tables_of_all_sorts(seed, 2) if len(table) < 6][::2] + [slow_table(5), round_table(5)]


class ByFirst(Case):
    def test_written_out(self):
        self.tells([(0, 1), (1, 1)], by_first, 1)
        self.tells([(0, 13), (1, 1), (2, 2)], by_first, 2)
        self.tells([(0, 373), (1, 1), (2, 72), (3, 42), (4, 18), (5, 6)], by_first, 3)

    def test_each_size_against_all_tables(self):
        for size in (1, 2, 3):
            self.tells(counts_wanted(size), by_first, size)
            self.assertEqual(sum(many for k, many in by_first(size)), 2 ** size ** 2)
            self.assertEqual(by_first(size)[-1][0], slowest_power(size))

    def test_lists_are_the_asker_s_own(self):
        for size in (1, 2, 3):
            told = by_first(size)
            self.assertIsNot(told, by_first(size))
            told.reverse()
            told.append((9, 9))
            del told[0]
            self.tells(counts_wanted(size), by_first, size)
            self.tells(slowest_wanted(size), slowest_tables, size)

    def test_no_number(self):
        for thing in no_numbers(1, 3) + whatever()[10:] + [0, 4, 5, 6, "2", (2,), [2]]:
            self.refuses(NoNumber, by_first, thing)

    def test_truths_though_numbers_like_them_were_asked(self):
        self.tells([(0, 1), (1, 1)], by_first, 1)
        self.refuses(NoNumber, by_first, True)

    def test_by_name(self):
        self.tells([(0, 13), (1, 1), (2, 2)], by_first, size=2)


class LeastAlike(Case):
    def test_written_out(self):
        self.tells(((1,),), least_alike, ((8,),))
        self.tells(((0,),), least_alike, ((0,),))
        self.tells(((0, 1), (1, 1)), least_alike, ((5, 6), (7, 0)))
        self.tells(((0, 0), (1, 0)), least_alike, ((0, 9), (0, 0)))
        self.tells(((0, 0, 1), (1, 0, 0), (1, 1, 0)), least_alike, slow_table(3))

    def test_all_small_tables_against_all_orders(self):
        for size in (1, 2, 3):
            for table in all_mark_tables(size):
                self.tells(least_wanted(table), least_alike, table)

    def test_greater_tables_against_all_orders(self):
        tables = tables_to_rename(231)
        self.assertEqual({len(table) for table in tables}, {1, 2, 3, 4, 5})
        for table in tables:
            self.tells(least_wanted(table), least_alike, table)

    def test_it_is_the_marks_of_a_renamed_one_and_no_greater(self):
        for table in tables_to_rename(232):
            told = least_alike(table)
            self.assertLessEqual(told, marks(table))
            orders = itertools.permutations(range(len(table)))
            self.assertIn(told, [renamed(marks(table), order) for order in orders])

    def test_the_same_of_a_renamed_table_of_marks_and_of_itself(self):
        numbers = Numbers(233)
        for table in tables_to_rename(234):
            told = least_alike(table)
            self.tells(told, least_alike, renamed(table, tuple(numbers.mixed(range(len(table))))))
            self.tells(told, least_alike, marks(table))
            self.tells(told, least_alike, told)

    def test_too_great(self):
        fields = {"many": 6, "most": 5}
        for table in (square(6, 0), square(6, 1), slow_table(6), round_table(6), Numbers(235).table(6)):
            self.bears(TooGreat, fields, least_alike, table)
        self.tells(square(5, 1), least_alike, square(5, 7))

    def test_no_table(self):
        for thing in no_tables():
            self.refuses(NoTable, least_alike, thing)

    def test_by_name(self):
        self.tells(((0, 1), (1, 1)), least_alike, table=((5, 6), (7, 0)))


class SlowestTables(Case):
    def test_written_out(self):
        self.tells([((1,),)], slowest_tables, 1)
        self.tells([((0, 1), (1, 1))], slowest_tables, 2)
        self.tells([((0, 0, 1), (1, 0, 0), (1, 1, 0))], slowest_tables, 3)

    def test_each_size_against_all_tables(self):
        for size in (1, 2, 3):
            self.tells(slowest_wanted(size), slowest_tables, size)
            for table in slowest_tables(size):
                self.tells(slowest_power(size), first_power, table)
                self.tells(table, least_alike, table)
        for size in (2, 3):
            self.assertIn(least_alike(slow_table(size)), slowest_tables(size))

    def test_lists_are_the_asker_s_own(self):
        for size in (1, 2, 3):
            told = slowest_tables(size)
            self.assertIsNot(told, slowest_tables(size))
            told.append(None)
            told.reverse()
            self.tells(slowest_wanted(size), slowest_tables, size)
            self.tells(counts_wanted(size), by_first, size)

    def test_no_number(self):
        for thing in no_numbers(1, 3) + whatever()[10:] + [0, 4, 5, 6, "2", (2,), [2]]:
            self.refuses(NoNumber, slowest_tables, thing)

    def test_truths_though_numbers_like_them_were_asked(self):
        self.tells([((1,),)], slowest_tables, 1)
        self.refuses(NoNumber, slowest_tables, True)

    def test_by_name(self):
        self.tells([((0, 1), (1, 1))], slowest_tables, size=2)


if __name__ == "__main__":
    unittest.main()
