import itertools
import unittest

from firstpowers.calendars import calendar_holds
from firstpowers.comings import all_marks, round_of
from firstpowers.errors import NoTable
from tests.support import (
    Case, Numbers, alike, all_mark_tables, in_tuples, marks_wanted, no_tables, round_table, slow_table, square,
    table_of, tables_of_all_sorts, times, whatever,
)

FIBONACCI = ((0, 5), (6, 7))
FIBONACCI_CALENDAR = 2, 1, (((0, 1), (1, 1)), ((1, 1), (1, 1)))
# Rounds of 2 and of 3 places, and a place that leads into the one.
LONG = table_of(6, {(0, 1), (1, 0), (2, 3), (3, 4), (4, 2), (5, 0)})


def calendar_of(table):
    """The calendar, by products one by one until one comes again."""
    rows = []
    now = marks_wanted(table)
    while now not in rows:
        rows.append(now)
        now = times(now, table)
    return rows.index(now) + 1, len(rows) - rows.index(now), tuple(rows)


def many_tables(seed):
    return tables_of_all_sorts(seed, 1) + all_mark_tables(4)[::997] + [FIBONACCI, LONG]


def few_tables(seed):
    return tables_of_all_sorts(seed, 1)[::13] + [FIBONACCI, LONG, slow_table(4), slow_table(6), round_table(6)]


class CalendarHolds(Case):
    def test_written_out(self):
        self.tells(True, calendar_holds, FIBONACCI, FIBONACCI_CALENDAR)
        self.tells(True, calendar_holds, ((0,),), (1, 1, (((0,),),)))
        self.tells(True, calendar_holds, ((8,),), (1, 1, (((1,),),)))
        self.tells(True, calendar_holds, ((0, 4), (4, 0)), (1, 2, (((0, 1), (1, 0)), ((1, 0), (0, 1)))))
        self.tells(True, calendar_holds, ((0, 4), (0, 0)), (2, 1, (((0, 1), (0, 0)), ((0, 0), (0, 0)))))
        self.tells(False, calendar_holds, ((0, 4), (0, 0)), (1, 2, (((0, 1), (0, 0)), ((0, 0), (0, 0)))))

    def test_the_calendar(self):
        for table in many_tables(111):
            self.tells(True, calendar_holds, table, calendar_of(table))
            self.tells(True, calendar_holds, table, round_of(table) + (tuple(all_marks(table)),))

    def test_ahead_and_long_otherwise(self):
        for table in few_tables(112):
            ahead, long, rows = calendar_of(table)
            for one, other in itertools.product(range(-1, len(rows) + 2), repeat=2):
                wanted = (one, other) == (ahead, long)
                self.tells(wanted, calendar_holds, table, (one, other, rows))

    def test_swapped_so_that_there_are_as_many_rows(self):
        for table in (FIBONACCI, LONG, round_table(3), slow_table(5)):
            ahead, long, rows = calendar_of(table)
            self.tells(False, calendar_holds, table, (long, ahead, rows))

    def test_a_row_lacking_or_twice(self):
        for table in few_tables(113):
            ahead, long, rows = calendar_of(table)
            for at in range(len(rows)):
                fewer, more = rows[:at] + rows[at + 1:], rows[:at] + rows[at:at + 1] + rows[at:]
                for one, other in ((ahead, long), (ahead - 1, long), (ahead, long - 1), (ahead + 1, long),
                                   (ahead, long + 1)):
                    self.tells(False, calendar_holds, table, (one, other, fewer))
                    self.tells(False, calendar_holds, table, (one, other, more))

    def test_a_round_more(self):
        # All follows one another and comes back, but the rows are no longer unlike.
        for table in few_tables(114):
            ahead, long, rows = calendar_of(table)
            longer = rows + rows[ahead - 1:]
            self.tells(False, calendar_holds, table, (ahead, 2 * long, longer))
            self.tells(False, calendar_holds, table, (ahead + long, long, longer))
            self.tells(False, calendar_holds, table, (ahead + 1, long, rows + rows[ahead - 1:ahead]))

    def test_begun_later(self):
        for table in (FIBONACCI, LONG, round_table(2), round_table(6), slow_table(6)):
            ahead, long, rows = calendar_of(table)
            self.tells(False, calendar_holds, table, (max(ahead - 1, 1), long, rows[1:]))
            self.tells(False, calendar_holds, table, (1, long, rows[1:] + rows[:1]))
            self.tells(False, calendar_holds, table, (ahead, long, rows[1:] + rows[:1]))

    def test_rows_in_another_order(self):
        for table in few_tables(115):
            ahead, long, rows = calendar_of(table)
            for one, other in list(itertools.combinations(range(len(rows)), 2))[:60]:
                swapped = list(rows)
                swapped[one], swapped[other] = rows[other], rows[one]
                self.tells(False, calendar_holds, table, (ahead, long, tuple(swapped)))

    def test_one_number_otherwise(self):
        for table in few_tables(116):
            ahead, long, rows = calendar_of(table)
            numbers = Numbers(117)
            for at in range(len(rows)):
                i, j = numbers.below(len(table)), numbers.below(len(table))
                for number in (1 - rows[at][i][j], rows[at][i][j] + 2, -1, None, bool(rows[at][i][j]), "1", [1]):
                    row = rows[at][i][:j] + (number,) + rows[at][i][j + 1:]
                    other = rows[at][:i] + (row,) + rows[at][i + 1:]
                    self.tells(False, calendar_holds, table, (ahead, long, rows[:at] + (other,) + rows[at + 1:]))

    def test_powers_that_are_no_marks(self):
        self.tells(False, calendar_holds, FIBONACCI, (2, 1, (FIBONACCI, ((1, 1), (1, 1)))))
        self.tells(False, calendar_holds, FIBONACCI, (2, 1, (((0, 1), (1, 1)), ((30, 35), (42, 79)))))
        self.tells(False, calendar_holds, ((8,),), (1, 1, (((8,),),)))
        self.tells(False, calendar_holds, ((8,),), (1, 2, (((1,),), ((8,),))))

    def test_truths(self):
        self.tells(True, calendar_holds, ((1,),), (1, 1, (((1,),),)))
        self.tells(False, calendar_holds, ((1,),), (True, 1, (((1,),),)))
        self.tells(False, calendar_holds, ((1,),), (1, True, (((1,),),)))
        self.tells(False, calendar_holds, ((1,),), (1, 1, (((True,),),)))
        self.tells(False, calendar_holds, ((0,),), (1, 1, (((False,),),)))

    def test_tables_of_another_size(self):
        for size in range(1, 7):
            for other in range(1, 7):
                for number in (0, 1):
                    thing = calendar_of(square(other, number))
                    self.tells(size == other, calendar_holds, square(size, number), thing)
                    if size != other:
                        thing = 2, 1, (square(size, number), square(other, number))
                        self.tells(False, calendar_holds, square(size, number), thing)
                        thing = 1, 2, (square(size, number), square(other, number))
                        self.tells(False, calendar_holds, square(size, number), thing)

    def test_one_row_of_another_size(self):
        for table in (round_table(3), slow_table(4), LONG):
            ahead, long, rows = calendar_of(table)
            for at in range(len(rows)):
                for size in range(1, 7):
                    if size != len(table):
                        thing = ahead, long, rows[:at] + (square(size, 1),) + rows[at + 1:]
                        self.tells(False, calendar_holds, table, thing)

    def test_lists_for_tuples(self):
        for table in (FIBONACCI, LONG, ((0,),), slow_table(3)):
            ahead, long, rows = calendar_of(table)
            for thing in (
                [ahead, long, rows], (ahead, long, list(rows)), (ahead, long, rows[:-1] + (list(rows[-1]),)),
                (ahead, long, (list(rows[0]),) + rows[1:]),
                (ahead, long, tuple([tuple(map(list, row)) for row in rows])),
                ([ahead], long, rows), (ahead, [long], rows), [(ahead, long, rows)], ((ahead, long, rows),),
            ):
                self.tells(False, calendar_holds, table, thing)

    def test_parts_lacking_or_more(self):
        for table in (FIBONACCI, LONG, ((0,),), slow_table(3)):
            ahead, long, rows = calendar_of(table)
            for thing in (
                (), (ahead,), (ahead, long), (ahead, rows), (long, rows), (rows,), rows, (ahead, long, rows, rows),
                (ahead, long, rows, None), (ahead, long) + rows + rows + rows, ((ahead, long), rows), (ahead, long, ()),
                (rows, ahead, long), (ahead, rows, long), (ahead, long, None), (ahead, long, {0: rows}),
                {"ahead": ahead, "long": long, "rows": rows}, (ahead, long, rows + (None,)),
                (ahead, long + 1, rows + ((),)), (ahead, long + 1, rows + (None,)), (ahead, long + 1, rows + ([],)),
                (ahead, long + 1, rows + ({},)),
            ):
                self.tells(False, calendar_holds, table, thing)

    def test_numbers_that_are_none(self):
        for table in (FIBONACCI, LONG, ((0,),)):
            ahead, long, rows = calendar_of(table)
            for thing in (None, True, False, "", "1", "2", [], (), {}, [1], (1,), 0, -1, 10 ** 31 - 1, 1 - 10 ** 31):
                self.tells(False, calendar_holds, table, (thing, long, rows))
                self.tells(False, calendar_holds, table, (ahead, thing, rows))
                self.tells(False, calendar_holds, table, (thing, thing, rows))
            # As many rows as both together ask for, though one of both is no number from 1 on.
            self.tells(False, calendar_holds, table, (len(rows) + 1, 0, rows))
            self.tells(False, calendar_holds, table, (0, len(rows) + 1, rows))
            self.tells(False, calendar_holds, table, (len(rows) + 3, -2, rows))
            self.tells(False, calendar_holds, table, (-2, len(rows) + 3, rows))

    def test_whatever_is_handed_in(self):
        for size in range(1, 7):
            for table in (square(size, 0), square(size, 1), round_table(size)):
                for thing in whatever() + in_tuples() + [()]:
                    for paper in (thing, (1, 1, thing), (1, 1, (thing,)), (thing, 1, (table,)), (1, thing, (table,)),
                                  (thing, thing, thing), (1, 2, (table, thing)), (2, 1, (table, thing))):
                        self.tells(alike(paper, calendar_of(table)), calendar_holds, table, paper)

    def test_so_round_of_is_as_told(self):
        tables = all_mark_tables(2)
        for table in tables:
            for many in (1, 2, 3):
                for rows in itertools.permutations(tables[::2] + [table], many):
                    for ahead in range(1, many + 1):
                        thing = ahead, many + 1 - ahead, rows
                        self.tells(thing == calendar_of(table), calendar_holds, table, thing)

    def test_no_table(self):
        for table in no_tables():
            for thing in ((1, 1, (((0,),),)), (1, 1, (table,)), None, (), []):
                self.refuses(NoTable, calendar_holds, table, thing)

    def test_by_name(self):
        self.tells(True, calendar_holds, table=FIBONACCI, thing=FIBONACCI_CALENDAR)
        self.tells(False, calendar_holds, thing=None, table=FIBONACCI)
        self.tells(True, calendar_holds, FIBONACCI, thing=FIBONACCI_CALENDAR)


if __name__ == "__main__":
    unittest.main()
