import itertools
import unittest

from firstpowers.errors import NoOrder, NoTable
from firstpowers.tables import full, is_table, marks, renamed, turned
from tests.support import Case, Numbers, all_mark_tables, no_orders, no_tables, square

LETTERED = tuple([tuple([10 * row + place for place in range(6)]) for row in range(6)])


def corner(size):
    """A table of a size, all of whose numbers are unlike."""
    return tuple([row[:size] for row in LETTERED[:size]])


def with_number(table, one, other, number):
    rows = [list(row) for row in table]
    rows[one][other] = number
    return tuple(map(tuple, rows))


class IsTable(Case):
    def test_each_size_from_1_to_6(self):
        for size in range(1, 7):
            for table in (square(size, 0), square(size, 1), corner(size)):
                self.tells(True, is_table, table)

    def test_sizes_beyond(self):
        self.tells(False, is_table, ())
        for size in (7, 8, 20):
            self.tells(False, is_table, square(size, 0))
            self.tells(False, is_table, square(size, 1))

    def test_numbers_of_any_size(self):
        for number in (0, 1, 9, 10 ** 12, 10 ** 31 - 1, 10 ** 60, 2 ** 2000):
            self.tells(True, is_table, ((number,),))
            self.tells(True, is_table, ((0, number), (number, 1)))

    def test_what_is_none(self):
        for thing in no_tables():
            self.tells(False, is_table, thing)

    def test_each_number_is_looked_at(self):
        for size in range(1, 7):
            for one, other in itertools.product(range(size), repeat=2):
                for thing in (-1, True, False, None, "1", (1,), [], {}):
                    self.tells(False, is_table, with_number(square(size, 1), one, other, thing))

    def test_each_row_is_looked_at(self):
        for size in range(1, 7):
            for at in range(size):
                for row in ((1,) * (size - 1), (1,) * (size + 1), [1] * size, "1" * size, None, 1, {1: 1}):
                    table = square(size, 1)
                    self.tells(False, is_table, table[:at] + (row,) + table[at + 1:])

    def test_truths_are_none_though_numbers_like_them_were_asked(self):
        for again in range(2):
            self.tells(True, is_table, ((1, 0), (0, 1)))
            self.tells(False, is_table, ((True, 0), (0, 1)))
            self.tells(False, is_table, ((1, False), (0, 1)))

    def test_by_name(self):
        self.tells(True, is_table, thing=((0,),))
        self.tells(False, is_table, thing=[[0]])


class FullAndMarks(Case):
    def test_without_a_nought(self):
        for size in range(1, 7):
            for number in (1, 2, 10 ** 40):
                self.tells(True, full, square(size, number))
                self.tells(square(size, 1), marks, square(size, number))

    def test_a_nought_at_any_place(self):
        for size in range(1, 7):
            for one, other in itertools.product(range(size), repeat=2):
                table = with_number(square(size, 3), one, other, 0)
                self.tells(False, full, table)
                self.tells(with_number(square(size, 1), one, other, 0), marks, table)

    def test_one_number_alone_is_no_nought(self):
        for size in range(2, 7):
            for one, other in itertools.product(range(size), repeat=2):
                table = with_number(square(size, 0), one, other, 7)
                self.tells(False, full, table)
                self.tells(with_number(square(size, 0), one, other, 1), marks, table)

    def test_all_noughts(self):
        for size in range(1, 7):
            self.tells(False, full, square(size, 0))
            self.tells(square(size, 0), marks, square(size, 0))

    def test_tables_of_marks_are_their_own_marks(self):
        for size in (1, 2, 3):
            for table in all_mark_tables(size):
                self.tells(table, marks, table)
                self.tells(0 not in sum(table, ()), full, table)

    def test_marks_of_many(self):
        for table in Numbers(1).tables(5):
            wanted = tuple([tuple([min(number, 1) for number in row]) for row in table])
            self.tells(wanted, marks, table)
            self.tells(min(map(min, table)) > 0, full, table)

    def test_no_table(self):
        for thing in no_tables():
            self.refuses(NoTable, full, thing)
            self.refuses(NoTable, marks, thing)

    def test_no_table_though_one_like_it_was_asked(self):
        self.tells(True, full, ((1,),))
        self.refuses(NoTable, full, ((True,),))
        self.tells(((1,),), marks, ((1,),))
        self.refuses(NoTable, marks, ((True,),))

    def test_by_name(self):
        self.tells(True, full, table=((1,),))
        self.tells(((1, 0), (0, 1)), marks, table=((5, 0), (0, 2)))


class Turned(Case):
    def test_written_out(self):
        self.tells(((5,),), turned, ((5,),))
        self.tells(((1, 3), (2, 4)), turned, ((1, 2), (3, 4)))
        self.tells(((1, 4, 7), (2, 5, 8), (3, 6, 9)), turned, ((1, 2, 3), (4, 5, 6), (7, 8, 9)))

    def test_each_size(self):
        for table in [corner(size) for size in range(1, 7)] + Numbers(2).tables(5):
            size = len(table)
            wanted = tuple([tuple([table[j][i] for j in range(size)]) for i in range(size)])
            self.tells(wanted, turned, table)
            self.tells(table, turned, wanted)

    def test_great_numbers_stay(self):
        self.tells(((0, 10 ** 50), (1, 2)), turned, ((0, 1), (10 ** 50, 2)))

    def test_no_table(self):
        for thing in no_tables():
            self.refuses(NoTable, turned, thing)

    def test_by_name(self):
        self.tells(((0, 2), (1, 3)), turned, table=((0, 1), (2, 3)))


class Renamed(Case):
    def test_written_out(self):
        self.tells(((5,),), renamed, ((5,),), (0,))
        self.tells(((4, 3), (2, 1)), renamed, ((1, 2), (3, 4)), (1, 0))
        # Place 0 becomes 1, 1 becomes 2, 2 becomes 0: what stood at 0 and 1 stands at 1 and 2.
        self.tells(((9, 7, 8), (3, 1, 2), (6, 4, 5)), renamed, ((1, 2, 3), (4, 5, 6), (7, 8, 9)), (1, 2, 0))

    def test_each_size_and_every_order(self):
        for size in range(1, 7):
            table = corner(size)
            for order in itertools.permutations(range(size)):
                answer = self.ask(renamed, table, order)
                self.assertIs(is_table(answer), True)
                self.assertEqual(len(answer), size)
                for i, j in itertools.product(range(size), repeat=2):
                    self.assertEqual(answer[order[i]][order[j]], table[i][j])

    def test_the_order_of_places_as_they_are(self):
        for table in Numbers(3).tables(3):
            self.tells(table, renamed, table, tuple(range(len(table))))

    def test_no_order(self):
        for size in range(1, 7):
            for thing in no_orders(size):
                self.refuses(NoOrder, renamed, corner(size), thing)

    def test_truths_are_no_order_though_one_like_them_was_asked(self):
        self.tells(((4, 3), (2, 1)), renamed, ((1, 2), (3, 4)), (1, 0))
        self.refuses(NoOrder, renamed, ((1, 2), (3, 4)), (True, False))
        self.refuses(NoOrder, renamed, ((1, 2), (3, 4)), (1, False))
        self.refuses(NoOrder, renamed, ((5,),), (False,))

    def test_an_order_of_another_size(self):
        for size in range(1, 7):
            for other in range(8):
                if other != size:
                    self.refuses(NoOrder, renamed, corner(size), tuple(range(other)))

    def test_no_table_ahead_of_no_order(self):
        for thing in no_tables():
            for order in ((0,), (0, 1), (1, 0), (), None, [0], (0, 0), (True,), "01"):
                self.refuses(NoTable, renamed, thing, order)

    def test_by_name(self):
        self.tells(((4, 3), (2, 1)), renamed, table=((1, 2), (3, 4)), order=(1, 0))
        self.tells(((4, 3), (2, 1)), renamed, ((1, 2), (3, 4)), order=(1, 0))
        self.tells(((4, 3), (2, 1)), renamed, order=(1, 0), table=((1, 2), (3, 4)))


if __name__ == "__main__":
    unittest.main()
