import unittest

from firstpowers.errors import Apart, NoNumber, NoTable
from firstpowers.firsts import first_power
from firstpowers.slow import bound_for, slow_table, slowest_power
from firstpowers.tables import turned
from tests.support import (
    Case, Numbers, all_mark_tables, first_wanted, no_numbers, no_tables, round_table, square, table_of,
    tables_of_all_sorts, whatever, with_first, without_first,
)
from tests.support import slow_table as slow_wanted

WITH_FIRST_POWER = {1: 1, 2: 2, 3: 5, 4: 10, 5: 17, 6: 26}
BARE = {size: {(i, j) for i in range(size) for j in range(size) if i != j} for size in range(1, 7)}


def bound_wanted(table):
    """The least of the bounds, each by its own words."""
    size = len(table)
    told = [(size - 1) ** 2 + 1]
    own = sum(1 for place in range(size) if table[place][place])
    if own:
        told.append(2 * size - own - 1)
    if all((table[i][j] > 0) == (table[j][i] > 0) for i in range(size) for j in range(size)):
        told.append(2 * size - 2)
    return min([max(1, bound) for bound in told])


def alike_both_ways(numbers, size, own):
    """A table whose marks are those of the turned one, so many of its places having an arrow to themselves."""
    arrows = {(place, place) for place in range(own)}
    for i in range(size):
        for j in range(i):
            if numbers.below(3) > 0 or j == i - 1:
                arrows |= {(i, j), (j, i)}
    return tuple([
        tuple([1 + numbers.below(9) if (i, j) in arrows else 0 for j in range(size)]) for i in range(size)
    ])


def many_tables(seed):
    numbers = Numbers(seed)
    told = tables_of_all_sorts(seed, 3) + all_mark_tables(4)[::151]
    told += [alike_both_ways(numbers, size, own) for size in range(2, 7) for own in range(size + 1) for at in range(4)]
    return with_first(told)


class SlowTable(Case):
    def test_written_out(self):
        self.tells(((0, 1), (1, 1)), slow_table, 2)
        self.tells(((0, 1, 0), (0, 0, 1), (1, 1, 0)), slow_table, 3)
        self.tells(((0, 1, 0, 0), (0, 0, 1, 0), (0, 0, 0, 1), (1, 1, 0, 0)), slow_table, 4)

    def test_each_size(self):
        for size in range(2, 7):
            self.tells(slow_wanted(size), slow_table, size)
            self.assertEqual(first_wanted(slow_table(size)), WITH_FIRST_POWER[size])
            self.tells(WITH_FIRST_POWER[size], first_power, slow_table(size))
            self.tells(WITH_FIRST_POWER[size], bound_for, slow_table(size))

    def test_no_number(self):
        for thing in no_numbers(2, 6) + whatever()[10:] + ["2", (2,), [2], 1, 7]:
            self.refuses(NoNumber, slow_table, thing)

    def test_by_name(self):
        self.tells(((0, 1), (1, 1)), slow_table, size=2)


class SlowestPower(Case):
    def test_each_size(self):
        for size, wanted in WITH_FIRST_POWER.items():
            self.tells(wanted, slowest_power, size)

    def test_it_is_the_first_power_of_the_slow_table(self):
        for size in range(2, 7):
            self.tells(first_wanted(slow_wanted(size)), slowest_power, size)

    def test_no_table_has_a_greater_one(self):
        for size in (1, 2, 3):
            firsts = [first_wanted(table) for table in with_first(all_mark_tables(size))]
            self.tells(max(firsts), slowest_power, size)
        for table in many_tables(221) + with_first(all_mark_tables(4)[::37]):
            self.assertLessEqual(first_wanted(table), slowest_power(len(table)))

    def test_no_number(self):
        for thing in no_numbers(1, 6) + whatever()[10:] + ["2", (2,), [2], 0, 7]:
            self.refuses(NoNumber, slowest_power, thing)

    def test_truths_though_numbers_like_them_were_asked(self):
        self.tells(1, slowest_power, 1)
        self.refuses(NoNumber, slowest_power, True)
        self.refuses(NoNumber, slow_table, True)

    def test_each_has_its_own_bounds(self):
        self.tells(1, slowest_power, 1)
        self.refuses(NoNumber, slow_table, 1)

    def test_by_name(self):
        self.tells(26, slowest_power, size=6)


class BoundFor(Case):
    def test_of_size_1(self):
        self.tells(1, bound_for, ((1,),))
        self.tells(1, bound_for, ((10 ** 30,),))

    def test_the_slowest_power_alone(self):
        for size in range(3, 7):
            self.tells(WITH_FIRST_POWER[size], bound_for, slow_wanted(size))
            self.tells(WITH_FIRST_POWER[size], bound_for, turned(slow_wanted(size)))

    def test_arrows_from_places_to_themselves(self):
        for size in range(2, 7):
            for own in range(1, size + 1):
                around = {(place, (place + 1) % size) for place in range(size)}
                table = table_of(size, around | {(place, place) for place in range(own)})
                self.tells(min(2 * size - own - 1, WITH_FIRST_POWER[size]), bound_for, table)

    def test_marks_of_the_turned_table(self):
        self.tells(4, bound_for, ((0, 1, 1), (1, 0, 1), (1, 1, 0)))
        # The numbers are not those of the turned table, but the marks are.
        self.tells(4, bound_for, ((0, 1, 2), (3, 0, 4), (5, 6, 0)))
        for size in range(3, 7):
            self.tells(2 * size - 2, bound_for, table_of(size, BARE[size]))
            self.tells(WITH_FIRST_POWER[size], bound_for, table_of(size, BARE[size] - {(0, size - 1)}))

    def test_both(self):
        for size in range(2, 7):
            for own in range(1, size + 1):
                table = table_of(size, BARE[size] | {(place, place) for place in range(own)})
                self.tells(max(1, 2 * size - own - 1), bound_for, table)
                self.tells(bound_wanted(table), bound_for, table)

    def test_of_size_2(self):
        self.tells(2, bound_for, ((0, 1), (1, 1)))
        self.tells(2, bound_for, ((4, 1), (1, 0)))
        self.tells(1, bound_for, ((1, 2), (3, 4)))

    def test_many(self):
        seen = set()
        for table in many_tables(222):
            self.tells(bound_wanted(table), bound_for, table)
            seen.add((len(table), bound_wanted(table)))
        self.assertGreater(len(seen), 20)

    def test_the_first_power_is_no_greater(self):
        for table in many_tables(223) + with_first(all_mark_tables(4)[::37]):
            self.assertLessEqual(first_wanted(table), bound_for(table))

    def test_apart(self):
        told = [square(size, 0) for size in range(1, 7)] + [round_table(size) for size in range(2, 7)]
        for table in told + without_first(all_mark_tables(3))[::7] + [((1, 1), (0, 1)), ((1, 0), (0, 1))]:
            self.refuses(Apart, bound_for, table)

    def test_no_table(self):
        for thing in no_tables():
            self.refuses(NoTable, bound_for, thing)

    def test_by_name(self):
        self.tells(4, bound_for, table=((0, 1, 1), (1, 0, 1), (1, 1, 0)))


if __name__ == "__main__":
    unittest.main()
