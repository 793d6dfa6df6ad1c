import unittest

from firstpowers.errors import NoSet, NoTable
from firstpowers.shuts import closure, is_shut, shut_sets
from tests.support import (
    Case, all_mark_tables, no_sets, no_tables, round_table, sets_of, square, table_of, tables_of_all_sorts,
)

# 0 and 1 lead to one another and out to 2; 3 leads to all but itself, and nothing leads to it.
DOWN = table_of(4, {(0, 1), (1, 0), (1, 2), (3, 0), (3, 1), (3, 2)})


def shut_wanted(table):
    """All shut sets, each arrow looked at; rising."""
    arrows = [(i, j) for i, row in enumerate(table) for j, number in enumerate(row) if number]
    return sorted([some for some in sets_of(len(table)) if not any(i in some and j not in some for i, j in arrows)])


def many_tables():
    return tables_of_all_sorts(51, 2)


class IsShut(Case):
    def test_written_out(self):
        for some in ((), (2,), (0, 1, 2), (0, 1, 2, 3)):
            self.tells(True, is_shut, DOWN, some)
        for some in ((0,), (1,), (3,), (0, 1), (1, 2), (0, 2), (2, 3), (0, 1, 3), (1, 2, 3)):
            self.tells(False, is_shut, DOWN, some)

    def test_none_and_all(self):
        for size in range(1, 7):
            for table in (square(size, 0), square(size, 2), round_table(size)):
                self.tells(True, is_shut, table, ())
                self.tells(True, is_shut, table, tuple(range(size)))

    def test_an_arrow_to_itself_leads_not_out(self):
        self.tells(True, is_shut, ((1, 0), (0, 1)), (0,))
        self.tells(True, is_shut, ((1, 0), (1, 1)), (0,))
        self.tells(False, is_shut, ((1, 0), (1, 1)), (1,))

    def test_one_arrow_alone(self):
        for size in range(1, 7):
            for i in range(size):
                for j in range(size):
                    table = table_of(size, {(i, j)})
                    for some in sets_of(size):
                        self.tells(i not in some or j in some, is_shut, table, some)

    def test_every_set(self):
        for table in many_tables():
            wanted = shut_wanted(table)
            for some in sets_of(len(table)):
                self.tells(some in wanted, is_shut, table, some)

    def test_no_set(self):
        for size in range(1, 7):
            for table in (square(size, 0), square(size, 1)):
                for thing in no_sets(size):
                    self.refuses(NoSet, is_shut, table, thing)

    def test_truths_though_a_set_like_them_was_asked(self):
        self.tells(True, is_shut, ((1, 0), (0, 1)), (0, 1))
        self.refuses(NoSet, is_shut, ((1, 0), (0, 1)), (False, True))
        self.refuses(NoSet, is_shut, ((1, 0), (0, 1)), (0, True))
        self.refuses(NoSet, is_shut, ((1, 0), (0, 1)), (False,))

    def test_no_table_ahead_of_no_set(self):
        for table in no_tables():
            for some in ((), (0,), None, [0], (1, 0)):
                self.refuses(NoTable, is_shut, table, some)

    def test_by_name(self):
        self.tells(True, is_shut, table=DOWN, some=(2,))
        self.tells(False, is_shut, some=(1,), table=DOWN)
        self.tells(True, is_shut, DOWN, some=(2,))


class ShutSets(Case):
    def test_written_out(self):
        self.tells([(), (0, 1, 2), (0, 1, 2, 3), (2,)], shut_sets, DOWN)
        self.tells([(), (0,)], shut_sets, ((0,),))
        self.tells([(), (0,)], shut_sets, ((5,),))
        self.tells([(), (0,), (0, 1), (1,)], shut_sets, ((1, 0), (0, 0)))
        self.tells([(), (0, 1), (1,)], shut_sets, ((0, 1), (0, 0)))
        self.tells([(), (0,), (0, 1)], shut_sets, ((0, 0), (1, 0)))

    def test_all_sets_where_there_is_no_arrow(self):
        for size in range(1, 7):
            self.tells(sorted(sets_of(size)), shut_sets, square(size, 0))

    def test_none_and_all_where_the_table_is_joined(self):
        for size in range(1, 7):
            for table in (square(size, 1), round_table(size)):
                self.tells([(), tuple(range(size))], shut_sets, table)

    def test_many(self):
        for table in many_tables() + all_mark_tables(4)[::101]:
            self.tells(shut_wanted(table), shut_sets, table)

    def test_lists_are_the_asker_s_own(self):
        told = shut_sets(DOWN)
        told.reverse()
        told.append(None)
        self.tells([(), (0, 1, 2), (0, 1, 2, 3), (2,)], shut_sets, DOWN)
        self.assertIsNot(shut_sets(DOWN), shut_sets(DOWN))

    def test_no_table(self):
        for thing in no_tables():
            self.refuses(NoTable, shut_sets, thing)

    def test_by_name(self):
        self.tells([(), (0,), (0, 1)], shut_sets, table=((0, 0), (1, 0)))


class Closure(Case):
    def test_written_out(self):
        self.tells((), closure, DOWN, ())
        self.tells((0, 1, 2), closure, DOWN, (0,))
        self.tells((2,), closure, DOWN, (2,))
        self.tells((0, 1, 2, 3), closure, DOWN, (3,))
        self.tells((0, 1, 2), closure, DOWN, (1, 2))

    def test_by_the_longest_walk(self):
        path = table_of(6, {(4, 2), (2, 0), (0, 5), (5, 1), (1, 3)})
        self.tells((0, 1, 2, 3, 4, 5), closure, path, (4,))
        self.tells((1, 3, 5), closure, path, (5,))
        self.tells((3,), closure, path, (3,))

    def test_against_all_shut_sets(self):
        for table in many_tables():
            shut = shut_wanted(table)
            for some in sets_of(len(table)):
                wider = [each for each in shut if set(some) <= set(each)]
                fewest = min(map(len, wider))
                wanted, = [each for each in wider if len(each) == fewest]
                self.tells(wanted, closure, table, some)

    def test_no_set(self):
        for size in range(1, 7):
            for table in (square(size, 0), square(size, 1)):
                for thing in no_sets(size):
                    self.refuses(NoSet, closure, table, thing)

    def test_truths_though_a_set_like_them_was_asked(self):
        self.tells((0, 1), closure, ((1, 0), (0, 1)), (0, 1))
        self.refuses(NoSet, closure, ((1, 0), (0, 1)), (False, True))
        self.refuses(NoSet, closure, ((1, 0), (0, 1)), (True,))

    def test_no_table_ahead_of_no_set(self):
        for table in no_tables():
            for some in ((), (0,), None, [0], (1, 0)):
                self.refuses(NoTable, closure, table, some)

    def test_by_name(self):
        self.tells((0, 1, 2), closure, table=DOWN, some=(1,))
        self.tells((0, 1, 2), closure, some=(1,), table=DOWN)
        self.tells((0, 1, 2), closure, DOWN, some=(1,))


if __name__ == "__main__":
    unittest.main()
