import itertools
import unittest

from firstpowers.errors import Apart, NoTable
from firstpowers.rounds import all_rounds, beat
from firstpowers.turns import turns_hold, turns_of
from tests.support import (
    Case, Numbers, all_mark_tables, come_to, in_tuples, is_joined, no_tables, round_table, slow_table, square,
    table_of, tables_of_all_sorts, turning_table, turning_tables, whatever,
)

EIGHT = table_of(4, {(0, 1), (1, 0), (1, 2), (2, 3), (3, 0)})


def are_turns(table, d, rests):
    """Whether each arrow goes on by one, gone through one by one."""
    for i, row in enumerate(table):
        for j, number in enumerate(row):
            if number and rests[j] != (0 if rests[i] == d - 1 else rests[i] + 1):
                return False
    return True


def all_turns(size, d):
    """All that turns of d may be, of tables of a size."""
    return [(d, rests) for rests in itertools.product(range(d), repeat=size)]


def no_turns(size):
    """Things that are no turns, whatever the table's arrows are."""
    rests = (0,) * size
    beyond = [(d, rests) for d in (0, -1, -6, 7, 8, 12, 10 ** 30, -10 ** 30)]
    beyond += [(d, tuple([place % d for place in range(size)])) for d in (7, 8, 12)]
    kinds = [(d, rests) for d in (None, True, False, "1", "", [1], (1,), {}, {1: 1}, [], ())]
    lacking = [(), (1,), (rests,), (1, rests, rests), (1, rests, None), (1,) + rests + (0,), (1, rests[1:])]
    lacking += [(1, rests + (0,)), (1, ()) if size > 1 else (1, (0, 0)), (2, rests + (1,)), (1, rests * 2)]
    swapped = [(rests, 1), (rests, rests), (1, 1), (1, None), (1, "0" * size), (1, {0: 0}), (1, {k: 0 for k in rests})]
    lists = [[1, rests], (1, list(rests)), [1, list(rests)], {1: rests}, ((1, rests),), [(1, rests)]]
    lists += [("turns", 1, rests), ("turns", (1, rests))]
    odd = [None, True, False, "0", "", [0], (0,), {}, -1, 10 ** 30]
    bent = [(d, rests[1:] + (thing,)) for d in (1, 2, 6) for thing in odd + [d, d + 1]]
    bent += [(d, (thing,) + rests[1:]) for d in (1, 2, 6) for thing in odd + [d, d + 1]]
    return beyond + kinds + lacking + swapped + lists + bent + whatever() + in_tuples()


class TurnsHold(Case):
    def test_written_out(self):
        self.tells(True, turns_hold, EIGHT, (2, (0, 1, 0, 1)))
        self.tells(True, turns_hold, EIGHT, (2, (1, 0, 1, 0)))
        self.tells(True, turns_hold, EIGHT, (1, (0, 0, 0, 0)))
        self.tells(False, turns_hold, EIGHT, (4, (0, 1, 2, 3)))
        self.tells(False, turns_hold, EIGHT, (2, (0, 1, 1, 0)))
        self.tells(False, turns_hold, EIGHT, (2, (0, 0, 0, 0)))

    def test_of_1_every_table_has(self):
        for table in tables_of_all_sorts(71, 1):
            self.tells(True, turns_hold, table, (1, (0,) * len(table)))

    def test_rounds_of_each_number_of_places(self):
        for size in range(1, 7):
            for d in range(1, 7):
                for first in range(d):
                    rests = tuple([(first + place) % d for place in range(size)])
                    self.tells(size % d == 0, turns_hold, round_table(size), (d, rests))

    def test_d_may_be_more_than_there_are_places(self):
        self.tells(True, turns_hold, ((0, 1), (0, 0)), (6, (4, 5)))
        self.tells(True, turns_hold, ((0, 1), (0, 0)), (6, (5, 0)))
        self.tells(False, turns_hold, ((0, 1), (0, 0)), (6, (5, 4)))
        self.tells(True, turns_hold, ((0,),), (6, (5,)))
        self.tells(False, turns_hold, ((1,),), (6, (5,)))

    def test_a_number_that_no_place_has(self):
        self.tells(True, turns_hold, table_of(4, {(0, 1), (2, 3)}), (5, (0, 1, 3, 4)))
        self.tells(False, turns_hold, table_of(4, {(0, 1), (1, 2)}), (5, (0, 1, 3, 4)))

    def test_arrows_go_on_and_not_back(self):
        for d in range(3, 7):
            self.tells(True, turns_hold, ((0, 1), (0, 0)), (d, (0, 1)))
            self.tells(False, turns_hold, ((0, 0), (1, 0)), (d, (0, 1)))
            self.tells(True, turns_hold, ((0, 0), (1, 0)), (d, (0, d - 1)))

    def test_whole_numbers_of_any_worth_are_arrows(self):
        self.tells(True, turns_hold, ((0, 10 ** 40), (2, 0)), (2, (0, 1)))
        self.tells(False, turns_hold, ((0, 1), (2, 10 ** 40)), (2, (0, 1)))

    def test_all_turns_of_small_tables(self):
        for table in [table for size in (1, 2) for table in all_mark_tables(size)] + all_mark_tables(3)[::5]:
            for d in range(1, 7):
                for thing in all_turns(len(table), d):
                    self.tells(are_turns(table, *thing), turns_hold, table, thing)

    def test_turns_of_great_tables_and_one_rest_otherwise(self):
        numbers = Numbers(72)
        for size in range(3, 7):
            for d in range(1, 7):
                for noughts in (0, 1, 3):
                    table, rests = turning_table(numbers, size, d, noughts)
                    self.tells(True, turns_hold, table, (d, rests))
                    for place in range(size):
                        for rest in range(d):
                            thing = d, rests[:place] + (rest,) + rests[place + 1:]
                            self.tells(are_turns(table, *thing), turns_hold, table, thing)

    def test_another_d(self):
        numbers = Numbers(73)
        for size in range(2, 7):
            for d in range(1, 7):
                table, rests = turning_table(numbers, size, d, 1)
                for other in range(max(rests) + 1, 7):
                    self.tells(are_turns(table, other, rests), turns_hold, table, (other, rests))
                for other in range(1, max(rests) + 1):
                    self.tells(False, turns_hold, table, (other, rests))

    def test_whatever_is_handed_in(self):
        for size in range(1, 7):
            for thing in no_turns(size):
                self.tells(False, turns_hold, square(size, 0), thing)
                self.tells(False, turns_hold, square(size, 1), thing)

    def test_truths_are_none_though_turns_like_them_were_asked(self):
        self.tells(True, turns_hold, round_table(2), (2, (0, 1)))
        self.tells(False, turns_hold, round_table(2), (2, (False, True)))
        self.tells(False, turns_hold, round_table(2), (2, (0, True)))
        self.tells(True, turns_hold, ((1,),), (1, (0,)))
        self.tells(False, turns_hold, ((1,),), (True, (0,)))
        self.tells(False, turns_hold, ((1,),), (1, (False,)))

    def test_no_table(self):
        for table in no_tables():
            for thing in ((1, (0,)), (2, (0, 1)), None, [], ()):
                self.refuses(NoTable, turns_hold, table, thing)

    def test_by_name(self):
        self.tells(True, turns_hold, table=EIGHT, thing=(2, (0, 1, 0, 1)))
        self.tells(False, turns_hold, thing=(3, (0, 1, 0, 1)), table=EIGHT)
        self.tells(True, turns_hold, EIGHT, thing=(2, (0, 1, 0, 1)))


def has_rounds(table):
    """Whether some place is come to from itself by a step or more."""
    return any(
        place in come_to(table, head)
        for place, row in enumerate(table) for head, number in enumerate(row) if number
    )


def length_of(table):
    """The greatest d from 1 to 6 of which there are turns, all tried one by one."""
    return max([
        d for d in range(1, 7) if any(are_turns(table, *thing) for thing in all_turns(len(table), d))
    ])


class TurnsOf(Case):
    def test_written_out(self):
        self.tells((2, (0, 1, 0, 1)), turns_of, EIGHT)
        self.tells((1, (0,)), turns_of, ((4,),))
        self.tells((2, (0, 1)), turns_of, ((0, 1), (1, 0)))
        self.tells((1, (0, 0)), turns_of, ((0, 1), (1, 1)))
        self.tells((3, (0, 2, 1)), turns_of, table_of(3, {(0, 2), (2, 1), (1, 0)}))
        three = table_of(6, {(0, 1), (1, 2), (2, 0), (2, 3), (3, 4), (4, 5), (5, 0)})
        self.tells((3, (0, 1, 2, 0, 1, 2)), turns_of, three)

    def test_rounds_in_any_order(self):
        for size in range(1, 7):
            for rest in itertools.permutations(range(1, size)):
                row = (0,) + rest
                arrows = set(zip(row, row[1:] + row[:1]))
                wanted = size, tuple([row.index(place) for place in range(size)])
                self.tells(wanted, turns_of, table_of(size, arrows))

    def test_slow_and_full_tables(self):
        for size in range(2, 7):
            self.tells((1, (0,) * size), turns_of, slow_table(size))
            self.tells((1, (0,) * size), turns_of, square(size, 1))

    def test_many_and_apart(self):
        asked = 0
        for table in tables_of_all_sorts(74, 3) + all_mark_tables(4)[::301]:
            if is_joined(table) and has_rounds(table):
                d, rests = self.ask(turns_of, table)
                self.assertTrue(are_turns(table, d, rests))
                self.assertEqual((d, rests[0]), (beat(table), 0))
                self.tells(True, turns_hold, table, (d, rests))
                self.tells((d, rests), turns_of, table)
                asked += d > 1
            else:
                self.refuses(Apart, turns_of, table)
        self.assertGreater(asked, 50)

    def test_without_rounds(self):
        self.refuses(Apart, turns_of, ((0,),))

    def test_not_joined(self):
        for size in range(2, 7):
            self.refuses(Apart, turns_of, square(size, 0))
            self.refuses(Apart, turns_of, table_of(size, {(i, i) for i in range(size)}))
            self.refuses(Apart, turns_of, table_of(size, {(i, i + 1) for i in range(size - 1)}))

    def test_turns_of_d_just_where_d_goes_into_the_beat(self):
        tables = [table for size in (1, 2, 3) for table in all_mark_tables(size)] + all_mark_tables(4)[::301]
        tables += [table for table in turning_tables(75, 1) if len(table) in (4, 5)]
        for table in tables:
            if is_joined(table) and all_rounds(table):
                for d in range(1, 7):
                    some = any([turns_hold(table, thing) for thing in all_turns(len(table), d)])
                    self.assertEqual(some, beat(table) % d == 0, (table, d))
                self.assertEqual(beat(table), length_of(table))

    def test_no_table(self):
        for thing in no_tables():
            self.refuses(NoTable, turns_of, thing)

    def test_by_name(self):
        self.tells((2, (0, 1)), turns_of, table=((0, 1), (1, 0)))


if __name__ == "__main__":
    unittest.main()
