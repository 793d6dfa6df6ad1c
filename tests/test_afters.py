import unittest

from firstpowers.afters import set_after
from firstpowers.errors import NoNumber, NoSet, NoTable
from tests.support import Case, Numbers, all_mark_tables, no_numbers, no_sets, no_tables, sets_of, square, times

MOST = 10 ** 9
ROUND = ((0, 1, 0), (0, 0, 1), (1, 0, 0))
# Two rounds, of 2 and of 3 places, and a place that leads into the one.
TWO_ROUNDS = (
    (0, 4, 0, 0, 0, 0), (4, 0, 0, 0, 0, 0), (0, 0, 0, 4, 0, 0),
    (0, 0, 0, 0, 4, 0), (0, 0, 4, 0, 0, 0), (1, 0, 0, 0, 0, 0),
)


def step(table, some):
    return tuple([head for head in range(len(table)) if any(table[place][head] for place in some)])


def after_by_squares(table, some, k):
    """The places that k steps lead to, by squaring the table's arrows again and again."""
    size = len(table)
    told = tuple([tuple([int(i == j) for j in range(size)]) for i in range(size)])
    square_now = times(table, told)
    while k:
        if k % 2:
            told = times(told, square_now)
        square_now = times(square_now, square_now)
        k //= 2
    return tuple([head for head in range(size) if any(told[place][head] for place in some)])


def many_tables():
    told = [table for size in (1, 2) for table in all_mark_tables(size)] + all_mark_tables(3)[::7]
    return told + Numbers(31).tables(2) + [square(6, 0), square(6, 1), ROUND, TWO_ROUNDS]


class SetAfter(Case):
    def test_written_out(self):
        self.tells((1,), set_after, ROUND, (0,), 1)
        self.tells((0, 2), set_after, ROUND, (0, 1), 2)
        self.tells((0, 1), set_after, ROUND, (0, 1), 3)
        self.tells((0, 1), set_after, ((0, 1), (1, 1)), (1,), 1)
        self.tells((), set_after, ((0, 1), (0, 0)), (0, 1), 2)

    def test_0_steps(self):
        for table in many_tables():
            for some in sets_of(len(table)):
                self.tells(some, set_after, table, some, 0)

    def test_few_steps(self):
        for table in many_tables():
            for some in sets_of(len(table)):
                wanted = some
                for k in range(12):
                    self.tells(wanted, set_after, table, some, k)
                    wanted = step(table, wanted)

    def test_steps_until_the_sets_come_again_and_beyond(self):
        for table in [ROUND, TWO_ROUNDS] + Numbers(32).tables(1):
            for some in sets_of(len(table))[::3]:
                wanted = some
                for k in range(80):
                    self.tells(wanted, set_after, table, some, k)
                    wanted = step(table, wanted)

    def test_very_many_steps(self):
        for table in many_tables():
            for some in sets_of(len(table))[::2]:
                for k in (10 ** 6 + 1, MOST - 7, MOST - 2, MOST - 1, MOST):
                    self.tells(after_by_squares(table, some, k), set_after, table, some, k)

    def test_very_many_steps_written_out(self):
        self.tells((1,), set_after, ROUND, (0,), MOST)
        self.tells((0,), set_after, ROUND, (0,), MOST - 1)
        self.tells((2,), set_after, ROUND, (0,), MOST - 2)
        self.tells((0, 3), set_after, TWO_ROUNDS, (0, 2), MOST)
        self.tells((1,), set_after, TWO_ROUNDS, (5,), MOST)
        self.tells((), set_after, ((0, 1), (0, 0)), (0,), MOST)

    def test_of_no_place_and_of_all(self):
        for size in range(1, 7):
            every = tuple(range(size))
            for k in (0, 1, 5, MOST):
                self.tells((), set_after, square(size, 1), (), k)
                self.tells(every, set_after, square(size, 1), every, k)
                self.tells(every if k == 0 else (), set_after, square(size, 0), every, k)

    def test_no_set(self):
        for size in range(1, 7):
            for thing in no_sets(size):
                for k in (0, 1, MOST + 1, -1, None):
                    self.refuses(NoSet, set_after, square(size, 1), thing, k)

    def test_no_number(self):
        for size in (1, 3, 6):
            for some in ((), (0,), tuple(range(size))):
                for thing in no_numbers(0, MOST):
                    self.refuses(NoNumber, set_after, square(size, 1), some, thing)

    def test_truths_though_numbers_like_them_were_asked(self):
        self.tells((1,), set_after, ROUND, (0,), 1)
        self.refuses(NoSet, set_after, ROUND, (False,), 1)
        self.refuses(NoNumber, set_after, ROUND, (0,), True)
        self.refuses(NoNumber, set_after, ROUND, (0,), False)

    def test_no_table_ahead_of_all(self):
        for table in no_tables():
            for some, k in (((), 0), ((0,), 1), ([0], 1), (None, None), ((0,), -1)):
                self.refuses(NoTable, set_after, table, some, k)

    def test_by_name(self):
        self.tells((0, 2), set_after, table=ROUND, some=(0, 1), k=2)
        self.tells((0, 2), set_after, k=2, some=(0, 1), table=ROUND)
        self.tells((0, 2), set_after, ROUND, (0, 1), k=2)


if __name__ == "__main__":
    unittest.main()
