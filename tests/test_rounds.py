import itertools
import unittest

from firstpowers.errors import Apart, NoTable
from firstpowers.rounds import all_rounds, beat, is_round
from tests.support import (
    Case, Numbers, all_mark_tables, in_tuples, is_joined, no_tables, round_table, scarce_tables, slow_table, square,
    table_of, tables_of_all_sorts, turning_tables, whatever,
)

# Rounds of 1, 2 and 3 places; none goes back from 1 to 2.
WOVEN = table_of(3, {(0, 0), (0, 1), (1, 0), (0, 2), (2, 1)})
WOVEN_ROUNDS = [(0,), (0, 1), (0, 2, 1)]


def rows_of_places(size):
    """All rows of one or more unlike places."""
    return [row for many in range(1, size + 1) for row in itertools.permutations(range(size), many)]


def rounds_wanted(table):
    """All rounds, all rows of unlike places gone through one by one; rising."""
    return sorted([
        row for row in rows_of_places(len(table))
        if row[0] == min(row) and all(table[one][other] for one, other in zip(row, row[1:] + row[:1]))
    ])


def beat_wanted(table):
    """The greatest number that goes into the lengths of all rounds, tried one by one."""
    lengths = [len(each) for each in rounds_wanted(table)]
    return max([d for d in range(1, 7) if all(length % d == 0 for length in lengths)]) if lengths else 0


def no_rounds(size):
    """Things that are no rounds, whatever the table's arrows are."""
    every = tuple(range(size))
    twice = [(0, 0), every + (0,), every * 2, (0,) + every, every + every[-1:], every + (size - 1, 0)]
    beyond = [(size,), (-1,), every + (size,), (-1,) + every, (10 ** 30,), (-size,)]
    kinds = [list(every), [0], (every,), [every], (every, every), {0: 0}, {place: place for place in every}, "0", "012"]
    truths = [(False,), (True,), (False,) + every[1:], (False, True), (0, True), every[:-1] + (True,)]
    elsewhere = [every[::-1], every[1:] + every[:1]] if size > 1 else []
    return [()] + twice + beyond + kinds + truths + elsewhere + whatever() + in_tuples()


def small_tables():
    return [table for size in (1, 2, 3) for table in all_mark_tables(size)] + all_mark_tables(4)[::997]


def great_tables():
    told = Numbers(61).tables(1) + scarce_tables(62, 1) + turning_tables(63, 1)
    return told + [slow_table(5), slow_table(6), round_table(6), square(5, 1), square(6, 0), square(6, 2)]


class IsRound(Case):
    def test_written_out(self):
        for thing in WOVEN_ROUNDS:
            self.tells(True, is_round, WOVEN, thing)
        for thing in ((1,), (2,), (0, 2), (1, 2), (0, 1, 2)):
            self.tells(False, is_round, WOVEN, thing)

    def test_of_one_place(self):
        for size in range(1, 7):
            for place in range(size):
                self.tells(True, is_round, table_of(size, {(place, place)}), (place,))
                self.tells(False, is_round, round_table(size) if size > 1 else ((0,),), (place,))

    def test_begun_elsewhere(self):
        for size in range(2, 7):
            every = tuple(range(size))
            for at in range(size):
                self.tells(at == 0, is_round, round_table(size), every[at:] + every[:at])
                self.tells(at == 0, is_round, square(size, 1), every[at:] + every[:at])

    def test_turned_about(self):
        for size in range(3, 7):
            about = (0,) + tuple(range(size - 1, 0, -1))
            self.tells(False, is_round, round_table(size), about)
            self.tells(True, is_round, square(size, 1), about)

    def test_one_arrow_lacking_anywhere(self):
        row = (0, 3, 1, 5, 2, 4)
        arrows = set(zip(row, row[1:] + row[:1]))
        self.tells(True, is_round, table_of(6, arrows), row)
        for arrow in arrows:
            self.tells(False, is_round, table_of(6, arrows - {arrow}), row)

    def test_with_a_place_twice(self):
        for thing in ((0, 0), (0, 1, 0), (0, 1, 1), (0, 1, 0, 1), (0, 0, 1), (0, 1, 2, 1)):
            self.tells(False, is_round, square(3, 1), thing)

    def test_every_row_of_places_of_small_tables(self):
        for table in small_tables():
            wanted = rounds_wanted(table)
            for row in rows_of_places(len(table)):
                self.tells(row in wanted, is_round, table, row)

    def test_rows_of_places_of_great_tables(self):
        for table in great_tables():
            wanted = rounds_wanted(table)
            for row in rows_of_places(len(table))[::7] + wanted:
                self.tells(row in wanted, is_round, table, row)

    def test_whatever_is_handed_in(self):
        for size in range(1, 7):
            for thing in no_rounds(size):
                self.tells(False, is_round, square(size, 1), thing)
                self.tells(False, is_round, square(size, 0), thing)

    def test_truths_are_none_though_a_round_like_them_was_asked(self):
        self.tells(True, is_round, square(2, 1), (0, 1))
        self.tells(False, is_round, square(2, 1), (False, True))
        self.tells(False, is_round, square(2, 1), (0, True))
        self.tells(False, is_round, square(2, 1), (True,))

    def test_no_table(self):
        for table in no_tables():
            for thing in ((0,), (), None, [0], (0, 1)):
                self.refuses(NoTable, is_round, table, thing)

    def test_by_name(self):
        self.tells(True, is_round, table=WOVEN, thing=(0, 2, 1))
        self.tells(False, is_round, thing=(0, 2), table=WOVEN)
        self.tells(True, is_round, WOVEN, thing=(0, 1))


class AllRounds(Case):
    def test_written_out(self):
        self.tells(WOVEN_ROUNDS, all_rounds, WOVEN)
        self.tells([], all_rounds, ((0,),))
        self.tells([(0,)], all_rounds, ((7,),))
        self.tells([(0,), (0, 1), (1,)], all_rounds, square(2, 1))
        both_ways = table_of(3, {(0, 1), (1, 2), (2, 0), (0, 2), (2, 1), (1, 0)})
        self.tells([(0, 1), (0, 1, 2), (0, 2), (0, 2, 1), (1, 2)], all_rounds, both_ways)

    def test_none(self):
        for size in range(1, 7):
            self.tells([], all_rounds, square(size, 0))
            self.tells([], all_rounds, table_of(size, {(i, j) for i in range(size) for j in range(i)}))

    def test_one_round_alone(self):
        for size in range(1, 7):
            self.tells([tuple(range(size))], all_rounds, round_table(size))

    def test_as_tuples_rise(self):
        told = [(0,), (0, 1), (0, 1, 2), (0, 2), (0, 2, 1), (1,), (1, 2), (2,)]
        self.tells(told, all_rounds, square(3, 1))

    def test_how_many_of_full_tables(self):
        for size, many in zip(range(1, 7), (1, 3, 8, 24, 89, 415), strict=True):
            self.assertEqual(len(all_rounds(square(size, 1))), many)

    def test_many(self):
        for table in small_tables() + great_tables() + all_mark_tables(4)[::301]:
            self.tells(rounds_wanted(table), all_rounds, table)

    def test_lists_are_the_asker_s_own(self):
        told = all_rounds(WOVEN)
        told.clear()
        self.tells(WOVEN_ROUNDS, all_rounds, WOVEN)
        self.assertIsNot(all_rounds(WOVEN), all_rounds(WOVEN))
        beat(WOVEN)
        self.tells(WOVEN_ROUNDS, all_rounds, WOVEN)

    def test_no_table(self):
        for thing in no_tables():
            self.refuses(NoTable, all_rounds, thing)

    def test_by_name(self):
        self.tells(WOVEN_ROUNDS, all_rounds, table=WOVEN)


class Beat(Case):
    def test_written_out(self):
        self.tells(1, beat, WOVEN)
        self.tells(2, beat, table_of(4, {(0, 1), (1, 0), (1, 2), (2, 3), (3, 0)}))
        self.tells(3, beat, table_of(6, {(0, 1), (1, 2), (2, 0), (2, 3), (3, 4), (4, 5), (5, 0)}))
        self.tells(1, beat, table_of(3, {(0, 1), (1, 0), (1, 2), (2, 0)}))

    def test_neither_round_has_it(self):
        # Rounds of 4 and of 6 places: 2 goes into both, no round has 2.
        self.tells(2, beat, table_of(6, {(0, 1), (1, 2), (2, 3), (3, 4), (4, 5), (5, 0), (3, 0)}))

    def test_without_rounds(self):
        self.tells(0, beat, ((0,),))

    def test_of_one_round(self):
        for size in range(1, 7):
            self.tells(size, beat, round_table(size))

    def test_of_slow_and_of_full_tables(self):
        for size in range(2, 7):
            self.tells(1, beat, slow_table(size))
            self.tells(1, beat, square(size, 1))

    def test_apart_and_many(self):
        for table in tables_of_all_sorts(64, 3) + all_mark_tables(4)[::301]:
            if is_joined(table):
                self.tells(beat_wanted(table), beat, table)
            else:
                self.refuses(Apart, beat, table)

    def test_apart(self):
        for size in range(2, 7):
            self.refuses(Apart, beat, square(size, 0))
            self.refuses(Apart, beat, table_of(size, {(i, j) for i in range(size) for j in range(i, size)}))
            self.refuses(Apart, beat, table_of(size, {(i, i) for i in range(size)}))

    def test_no_table(self):
        for thing in no_tables():
            self.refuses(NoTable, beat, thing)

    def test_by_name(self):
        self.tells(3, beat, table=round_table(3))


if __name__ == "__main__":
    unittest.main()
