import itertools
import unittest

from firstpowers.errors import Apart, NoNumber, NoTable
from firstpowers.powers import power, product
from tests.support import Case, Numbers, all_mark_tables, no_numbers, no_tables, square


def times(one, other):
    size = range(len(one))
    return tuple([tuple([sum(one[i][k] * other[k][j] for k in size) for j in size]) for i in size])


def unit(size):
    return tuple([tuple([int(i == j) for j in range(size)]) for i in range(size)])


class Product(Case):
    def test_written_out(self):
        self.tells(((6,),), product, ((2,),), ((3,),))
        self.tells(((19, 22), (43, 50)), product, ((1, 2), (3, 4)), ((5, 6), (7, 8)))
        self.tells(((23, 34), (31, 46)), product, ((5, 6), (7, 8)), ((1, 2), (3, 4)))
        self.tells(((0, 1), (0, 0)), product, ((1, 0), (0, 0)), ((0, 1), (0, 0)))
        self.tells(((0, 0), (0, 0)), product, ((0, 1), (0, 0)), ((1, 0), (0, 0)))

    def test_each_size(self):
        numbers = Numbers(11)
        for size in range(1, 7):
            for at in range(20):
                one, other = numbers.table(size, at % 5), numbers.table(size, (at + 1) % 5)
                self.tells(times(one, other), product, one, other)

    def test_all_marks_of_two_places(self):
        for one, other in itertools.product(all_mark_tables(2), repeat=2):
            self.tells(times(one, other), product, one, other)

    def test_great_numbers(self):
        great = 10 ** 31 - 1
        for size in range(1, 7):
            self.tells(square(size, size * great * great), product, square(size, great), square(size, great))
        self.tells(((10 ** 600 + 1,),), product, ((1,),), ((10 ** 600 + 1,),))

    def test_units_change_nothing(self):
        for table in Numbers(12).tables(3):
            self.tells(table, product, table, unit(len(table)))
            self.tells(table, product, unit(len(table)), table)

    def test_tables_of_unlike_sizes(self):
        for one, other in itertools.permutations(range(1, 7), 2):
            self.refuses(Apart, product, square(one, 1), square(other, 1))
            self.refuses(Apart, product, square(one, 0), square(other, 1))

    def test_no_table_ahead_of_apart(self):
        for thing in no_tables():
            for size in (1, 2, 6):
                self.refuses(NoTable, product, thing, square(size, 1))
                self.refuses(NoTable, product, square(size, 1), thing)
            self.refuses(NoTable, product, thing, thing)

    def test_by_name(self):
        one, other = ((1, 2), (3, 4)), ((5, 6), (7, 8))
        self.tells(((19, 22), (43, 50)), product, one=one, other=other)
        self.tells(((19, 22), (43, 50)), product, other=other, one=one)
        self.tells(((19, 22), (43, 50)), product, one, other=other)


class Power(Case):
    def test_of_none(self):
        for size in range(1, 7):
            for table in (square(size, 0), square(size, 3), Numbers(size).table(size)):
                self.tells(unit(size), power, table, 0)

    def test_one_and_two(self):
        for table in Numbers(13).tables(4):
            self.tells(table, power, table, 1)
            self.tells(times(table, table), power, table, 2)

    def test_every_number_to_60(self):
        for table in [Numbers(14).table(size, noughts) for size in range(1, 7) for noughts in (1, 3)]:
            wanted = unit(len(table))
            for k in range(61):
                self.tells(wanted, power, table, k)
                wanted = times(wanted, table)

    def test_written_out(self):
        self.tells(((2 ** 60,),), power, ((2,),), 60)
        self.tells(((0,),), power, ((0,),), 60)
        self.tells(((34, 55), (55, 89)), power, ((0, 1), (1, 1)), 10)
        self.tells(((1, 7), (0, 1)), power, ((1, 1), (0, 1)), 7)

    def test_great_numbers(self):
        self.tells(((10 ** 1800,),), power, ((10 ** 30,),), 60)

    def test_what_was_told_may_be_handed_in_again(self):
        table = ((0, 1), (3, 1))
        self.tells(power(table, 60), power, power(table, 30), 2)
        self.tells(power(table, 60), product, power(table, 59), table)

    def test_no_number(self):
        for table in (((1,),), ((0, 1), (1, 1)), square(6, 2)):
            for thing in no_numbers(0, 60):
                self.refuses(NoNumber, power, table, thing)

    def test_truths_are_no_numbers_though_numbers_like_them_were_asked(self):
        table = ((0, 1), (1, 1))
        self.tells(unit(2), power, table, 0)
        self.tells(table, power, table, 1)
        self.refuses(NoNumber, power, table, False)
        self.refuses(NoNumber, power, table, True)
        self.tells(((1,),), power, ((1,),), 5)
        self.refuses(NoTable, power, ((True,),), 5)

    def test_no_table_ahead_of_no_number(self):
        for thing in no_tables():
            for k in (0, 1, 60, 61, -1, True, None, "1"):
                self.refuses(NoTable, power, thing, k)

    def test_by_name(self):
        self.tells(((1, 1), (1, 2)), power, table=((0, 1), (1, 1)), k=2)
        self.tells(((1, 1), (1, 2)), power, k=2, table=((0, 1), (1, 1)))
        self.tells(((1, 1), (1, 2)), power, ((0, 1), (1, 1)), k=2)


if __name__ == "__main__":
    unittest.main()
