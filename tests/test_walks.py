import itertools
import unittest

from firstpowers.errors import NoNumber, NoPlace, NoTable, NoWalk
from firstpowers.powers import power
from firstpowers.walks import first_walk, is_walk, nth_walk, place_of_walk, walks_many, worth_of
from tests.support import Case, Numbers, all_mark_tables, in_tuples, no_numbers, no_places, no_tables, square, whatever

ROUND = ((0, 2, 0), (0, 0, 3), (5, 0, 0))
FIBONACCI = ((0, 1), (1, 1))


def walks_from(table, place, k):
    """All walks of k steps from a place, rising, gone through one by one."""
    if k == 0:
        return [(place,)]
    return [
        (place,) + rest for head in range(len(table)) if table[place][head]
        for rest in walks_from(table, head, k - 1)
    ]


def walks_between(table, one, other, k):
    return [walk for walk in walks_from(table, one, k) if walk[-1] == other]


def few_steps():
    """Tables and how many steps can be gone through one by one in them."""
    told = [(table, 5) for size in (1, 2) for table in all_mark_tables(size)]
    told += [(table, 3) for table in all_mark_tables(3)[::5]]
    told += [(table, 4) for table in Numbers(21).tables(1)]
    return told + [(square(6, 1), 3), (ROUND, 9), (FIBONACCI, 9)]


def pairs(table):
    return itertools.product(range(len(table)), repeat=2)


def no_walks(table):
    """Things that are no walks of the table, whatever its arrows are."""
    size = len(table)
    bounds = [(size,), (-1,), (0, size), (0, -1), (size, 0), (-1, 0), (-size,), (10 ** 30,)]
    kinds = [[0], [0, 0], list(range(size)), {0: 0}, "0", "00", ((0,),), ((0,), (0,)), (0, (0,)), (0, [0])]
    truths = [(False,), (True,), (0, False), (False, 0), (0, True), (True, True), (False, False)]
    return [()] + bounds + kinds + truths + in_tuples() + whatever()


class IsWalk(Case):
    def test_without_steps(self):
        for size in range(1, 7):
            for place in range(size):
                self.tells(True, is_walk, square(size, 0), (place,))
                self.tells(True, is_walk, square(size, 4), (place,))

    def test_every_tuple_of_places(self):
        for table in [square(3, 1), ROUND] + all_mark_tables(2) + all_mark_tables(3)[::17]:
            for many in range(1, 5):
                for thing in itertools.product(range(len(table)), repeat=many):
                    arrows = [table[one][other] for one, other in zip(thing, thing[1:])]
                    self.tells(0 not in arrows, is_walk, table, thing)

    def test_one_arrow_lacking_anywhere(self):
        walk = (0, 1, 2, 3, 4, 5, 0, 2, 4)
        for one, other in zip(walk, walk[1:]):
            rows = [list(row) for row in square(6, 1)]
            self.tells(True, is_walk, tuple(map(tuple, rows)), walk)
            rows[one][other] = 0
            self.tells(False, is_walk, tuple(map(tuple, rows)), walk)

    def test_arrows_go_one_way(self):
        self.tells(True, is_walk, ((0, 1), (0, 0)), (0, 1))
        self.tells(False, is_walk, ((0, 1), (0, 0)), (1, 0))

    def test_of_many_steps(self):
        self.tells(True, is_walk, ROUND, (0, 1, 2) * 500)
        self.tells(False, is_walk, ROUND, (0, 1, 2) * 500 + (1,))

    def test_what_is_none(self):
        for size in range(1, 7):
            for thing in no_walks(square(size, 1)):
                self.tells(False, is_walk, square(size, 1), thing)

    def test_truths_are_none_though_a_walk_like_them_was_asked(self):
        self.tells(True, is_walk, FIBONACCI, (0, 1))
        self.tells(False, is_walk, FIBONACCI, (False, 1))
        self.tells(False, is_walk, FIBONACCI, (0, True))

    def test_no_table(self):
        for table in no_tables():
            for thing in ((0,), (), None, [0], (0, 0)):
                self.refuses(NoTable, is_walk, table, thing)

    def test_by_name(self):
        self.tells(True, is_walk, table=ROUND, thing=(2, 0))
        self.tells(False, is_walk, thing=(0, 2), table=ROUND)
        self.tells(True, is_walk, ROUND, thing=(2, 0))


class WorthOf(Case):
    def test_without_steps(self):
        for size in range(1, 7):
            for place in range(size):
                self.tells(1, worth_of, square(size, 0), (place,))
                self.tells(1, worth_of, square(size, 7), (place,))

    def test_with_steps(self):
        self.tells(2, worth_of, ROUND, (0, 1))
        self.tells(6, worth_of, ROUND, (0, 1, 2))
        self.tells(30, worth_of, ROUND, (0, 1, 2, 0))
        self.tells(900 * 2, worth_of, ROUND, (0, 1, 2) * 2 + (0, 1))
        self.tells(8, worth_of, ((2,),), (0, 0, 0, 0))

    def test_of_more_than_40_steps(self):
        self.tells(2 ** 41, worth_of, ((2,),), (0,) * 42)
        self.tells(30 ** 100, worth_of, ROUND, (0, 1, 2) * 100 + (0,))
        self.tells(1, worth_of, square(6, 1), (0, 5, 3) * 700)

    def test_worths_add_up_to_the_power(self):
        for table in Numbers(22).tables(1):
            for k in range(4):
                for i, j in pairs(table):
                    worths = [self.ask(worth_of, table, walk) for walk in walks_between(table, i, j, k)]
                    self.assertEqual(power(table, k)[i][j], sum(worths))

    def test_great_numbers(self):
        self.tells(10 ** 90, worth_of, ((10 ** 30,),), (0, 0, 0, 0))

    def test_no_walk(self):
        for size in range(1, 7):
            for thing in no_walks(square(size, 2)):
                self.refuses(NoWalk, worth_of, square(size, 2), thing)

    def test_an_arrow_lacking(self):
        for walk in ((0, 0), (0, 2), (1, 0), (2, 1), (0, 1, 2, 1), (0, 1, 1, 2), (0, 2, 0)):
            self.refuses(NoWalk, worth_of, ROUND, walk)

    def test_no_table_ahead_of_no_walk(self):
        for table in no_tables():
            for walk in ((0,), (), None, (7,)):
                self.refuses(NoTable, worth_of, table, walk)

    def test_by_name(self):
        self.tells(6, worth_of, table=ROUND, walk=(0, 1, 2))
        self.tells(6, worth_of, walk=(0, 1, 2), table=ROUND)
        self.tells(6, worth_of, ROUND, walk=(0, 1, 2))


class WalksOneByOne(Case):
    def test_walks_many(self):
        for table, most in few_steps():
            for k in range(most + 1):
                for one, other in pairs(table):
                    self.tells(len(walks_between(table, one, other, k)), walks_many, table, one, other, k)

    def test_first_walk(self):
        for table, most in few_steps():
            for k in range(most + 1):
                for one, other in pairs(table):
                    walks = walks_between(table, one, other, k)
                    self.tells(min(walks) if walks else None, first_walk, table, one, other, k)

    def test_nth_walk_and_place_of_walk(self):
        for table, most in few_steps():
            for k in range(most + 1):
                for one, other in pairs(table):
                    walks = sorted(walks_between(table, one, other, k))
                    for number, walk in enumerate(walks):
                        self.tells(walk, nth_walk, table, one, other, k, number)
                        self.tells(number, place_of_walk, table, walk)
                    for number in (len(walks), len(walks) + 1, -1):
                        self.refuses(NoNumber, nth_walk, table, one, other, k, number)


class WalksOfManySteps(Case):
    def test_40_steps_are_counted(self):
        self.tells(6 ** 39, walks_many, square(6, 5), 2, 4, 40)
        self.tells(1, walks_many, ((9,),), 0, 0, 40)
        self.tells(63245986, walks_many, FIBONACCI, 0, 0, 40)
        self.tells(0, walks_many, ROUND, 0, 0, 40)
        self.tells(1, walks_many, ROUND, 0, 1, 40)

    def test_counts_are_the_powers_of_the_marks(self):
        for table in Numbers(23).tables(1):
            marks = tuple([tuple([min(number, 1) for number in row]) for row in table])
            for k in (6, 13, 39, 40):
                for one, other in pairs(table):
                    self.tells(power(marks, k)[one][other], walks_many, table, one, other, k)

    def test_first_walk_of_40_steps(self):
        self.tells((2,) + (0,) * 39 + (4,), first_walk, square(6, 1), 2, 4, 40)
        self.tells((0, 1) * 20 + (0,), first_walk, FIBONACCI, 0, 0, 40)
        self.tells((0, 1, 2) * 13 + (0, 1), first_walk, ROUND, 0, 1, 40)
        self.tells(None, first_walk, ROUND, 0, 0, 40)
        # The least place ahead leads nowhere in time, so the walk may not turn to it.
        trap = ((0, 0, 1, 0), (0, 1, 0, 0), (0, 1, 1, 1), (0, 0, 0, 0))
        self.tells((0,) + (2,) * 39 + (3,), first_walk, trap, 0, 3, 40)

    def test_nth_walk_of_40_steps(self):
        table = square(6, 1)
        self.tells((2,) + (0,) * 39 + (4,), nth_walk, table, 2, 4, 40, 0)
        self.tells((2,) + (0,) * 38 + (1, 4), nth_walk, table, 2, 4, 40, 1)
        self.tells((2,) + (5,) * 39 + (4,), nth_walk, table, 2, 4, 40, 6 ** 39 - 1)
        self.tells((2,) + (1,) + (0,) * 38 + (4,), nth_walk, table, 2, 4, 40, 6 ** 38)
        self.refuses(NoNumber, nth_walk, table, 2, 4, 40, 6 ** 39)

    def test_numbers_and_walks_of_40_steps_go_both_ways(self):
        for table in Numbers(24).tables(1):
            for one, other in pairs(table):
                many = walks_many(table, one, other, 40)
                walks = []
                for number in sorted({0, 1, 2, many // 7, many // 3, many // 2, many - 2, many - 1}):
                    if 0 <= number < many:
                        walk = self.ask(nth_walk, table, one, other, 40, number)
                        self.assertIs(is_walk(table, walk), True)
                        self.assertEqual((walk[0], walk[-1], len(walk)), (one, other, 41))
                        self.tells(number, place_of_walk, table, walk)
                        walks.append(walk)
                self.assertEqual(walks, sorted(set(walks)))
                self.tells(walks[0] if walks else None, first_walk, table, one, other, 40)
                self.refuses(NoNumber, nth_walk, table, one, other, 40, many)

    def test_place_of_walk_of_40_steps(self):
        table = square(6, 1)
        self.tells(0, place_of_walk, table, (2,) + (0,) * 39 + (4,))
        self.tells(6 ** 39 - 1, place_of_walk, table, (2,) + (5,) * 39 + (4,))
        self.tells(0, place_of_walk, ((3,),), (0,) * 41)

    def test_0_steps(self):
        for size in range(1, 7):
            for table in (square(size, 0), square(size, 1)):
                for one, other in pairs(table):
                    same = one == other
                    self.tells(int(same), walks_many, table, one, other, 0)
                    self.tells((one,) if same else None, first_walk, table, one, other, 0)
                    if same:
                        self.tells((one,), nth_walk, table, one, other, 0, 0)
                        self.tells(0, place_of_walk, table, (one,))
                    else:
                        self.refuses(NoNumber, nth_walk, table, one, other, 0, 0)

    def test_where_there_is_no_walk(self):
        dead = ((0, 1), (0, 0))
        self.tells(0, walks_many, dead, 1, 0, 3)
        self.tells(None, first_walk, dead, 1, 0, 3)
        self.refuses(NoNumber, nth_walk, dead, 1, 0, 3, 0)


class WalksRefused(Case):
    QUESTIONS = ((walks_many, ()), (first_walk, ()), (nth_walk, (0,)), (nth_walk, (None,)))

    def test_no_table_ahead_of_all(self):
        for deed, more in self.QUESTIONS:
            for table in no_tables():
                self.refuses(NoTable, deed, table, 0, 0, 1, *more)
                self.refuses(NoTable, deed, table, None, 9, 41, *more)

    def test_no_place_of_the_one_and_of_the_other(self):
        for deed, more in self.QUESTIONS:
            for size in (1, 2, 5, 6):
                for thing in no_places(size):
                    for k in (1, 41, -1, None):
                        self.refuses(NoPlace, deed, square(size, 1), thing, 0, k, *more)
                        self.refuses(NoPlace, deed, square(size, 1), 0, thing, k, *more)
                    self.refuses(NoPlace, deed, square(size, 1), thing, thing, 1, *more)

    def test_no_number_of_steps(self):
        for deed, more in self.QUESTIONS:
            for size in (1, 2, 6):
                for thing in no_numbers(0, 40):
                    self.refuses(NoNumber, deed, square(size, 1), 0, size - 1, thing, *more)

    def test_no_number_of_a_walk(self):
        for thing in no_numbers(0, 6 ** 2 - 1):
            self.refuses(NoNumber, nth_walk, square(6, 1), 1, 2, 3, thing)
        for thing in no_numbers(0, 0):
            self.refuses(NoNumber, nth_walk, ((1,),), 0, 0, 3, thing)
        for thing in no_numbers(0, -1):
            self.refuses(NoNumber, nth_walk, ((0,),), 0, 0, 3, thing)

    def test_truths_though_numbers_like_them_were_asked(self):
        self.tells(1, walks_many, FIBONACCI, 0, 1, 1)
        self.refuses(NoPlace, walks_many, FIBONACCI, False, 1, 1)
        self.refuses(NoPlace, walks_many, FIBONACCI, 0, True, 1)
        self.refuses(NoNumber, walks_many, FIBONACCI, 0, 1, True)
        self.tells((0, 1, 1), nth_walk, FIBONACCI, 0, 1, 2, 0)
        self.refuses(NoNumber, nth_walk, FIBONACCI, 0, 1, 2, False)

    def test_no_walk(self):
        for size in range(1, 7):
            for thing in no_walks(square(size, 1)):
                self.refuses(NoWalk, place_of_walk, square(size, 1), thing)
        for walk in ((0, 0), (0, 2), (1, 0), (0, 1, 2, 1)):
            self.refuses(NoWalk, place_of_walk, ROUND, walk)

    def test_a_walk_of_more_than_40_steps(self):
        for many in (42, 43, 100, 2000):
            self.refuses(NoWalk, place_of_walk, ((1,),), (0,) * many)
            self.refuses(NoWalk, place_of_walk, square(6, 1), (3,) * many)

    def test_no_table_ahead_of_no_walk(self):
        for table in no_tables():
            for walk in ((0,), (), None, (0,) * 42):
                self.refuses(NoTable, place_of_walk, table, walk)


class WalksByName(Case):
    def test_by_name(self):
        table = ((0, 1, 1), (1, 0, 1), (1, 1, 0))
        self.tells(1, walks_many, table=table, one=0, other=1, k=2)
        self.tells(3, walks_many, k=3, other=1, one=0, table=table)
        self.tells((0, 2, 1), first_walk, table=table, one=0, other=1, k=2)
        self.tells((0, 2, 1), first_walk, k=2, other=1, one=0, table=table)
        self.tells((0, 2, 0, 1), nth_walk, table=table, one=0, other=1, k=3, number=2)
        self.tells((0, 1, 2, 1), nth_walk, number=1, k=3, other=1, one=0, table=table)
        self.tells(2, place_of_walk, table=table, walk=(0, 2, 0, 1))
        self.tells(2, place_of_walk, walk=(0, 2, 0, 1), table=table)


if __name__ == "__main__":
    unittest.main()
