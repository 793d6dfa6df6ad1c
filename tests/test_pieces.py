import itertools
import unittest

from firstpowers.errors import NoSet, NoTable
from firstpowers.pieces import joined, ladder, part, pieces
from tests.support import (
    Case, Numbers, all_mark_tables, come_to, no_sets, no_tables, scarce_tables, sets_of, square, table_of,
)

EMPTY = ((0, 0, 0), (0, 0, 0), (0, 0, 0))
ROUND = ((0, 1, 0), (0, 0, 1), (1, 0, 0))
# From 2 an arrow goes to 0; place 1 stands alone, and is less than 2.
LATE = ((0, 0, 0), (0, 0, 0), (1, 0, 0))


def pieces_wanted(table):
    reach = [come_to(table, place) for place in range(len(table))]
    told = {
        tuple([other for other in range(len(table)) if other in reach[place] and place in reach[other]])
        for place in range(len(table))
    }
    return sorted(told)


def arrow_between(table, one, other):
    return any(table[i][j] for i in one for j in other)


def ladder_wanted(table):
    """The least of all rows of pieces that have no arrow going back."""
    rows = [
        row for row in itertools.permutations(pieces_wanted(table))
        if not any(arrow_between(table, later, sooner) for sooner, later in itertools.combinations(row, 2))
    ]
    return list(min(rows))


def many_tables():
    told = [table for size in (1, 2, 3) for table in all_mark_tables(size)]
    return told + Numbers(41).tables(12) + [square(6, 0), square(6, 1)]


class Pieces(Case):
    def test_one_piece(self):
        self.tells([(0, 1, 2)], pieces, ROUND)
        for size in range(1, 7):
            self.tells([tuple(range(size))], pieces, square(size, 3))

    def test_as_many_as_places(self):
        for size in range(1, 7):
            alone = [(place,) for place in range(size)]
            self.tells(alone, pieces, square(size, 0))
            self.tells(alone, pieces, table_of(size, {(i, j) for i in range(size) for j in range(i)}))
            self.tells(alone, pieces, table_of(size, {(i, j) for i in range(size) for j in range(i, size)}))

    def test_places_from_which_nothing_goes(self):
        self.tells([(0, 2), (1,)], pieces, table_of(3, {(0, 2), (2, 0), (0, 1)}))
        self.tells([(0,), (1, 2)], pieces, table_of(3, {(1, 2), (2, 1), (1, 0), (2, 0)}))

    def test_pieces_woven_into_one_another(self):
        arrows = {(0, 3), (3, 0), (1, 5), (5, 1), (2, 4), (4, 2), (0, 1), (5, 4)}
        self.tells([(0, 3), (1, 5), (2, 4)], pieces, table_of(6, arrows))
        # By the longest round that six places can have.
        self.tells([(0, 1, 2, 3, 4, 5)], pieces, table_of(6, {(0, 4), (4, 2), (2, 5), (5, 1), (1, 3), (3, 0)}))

    def test_many(self):
        for table in many_tables() + scarce_tables(42, 6):
            self.tells(pieces_wanted(table), pieces, table)

    def test_lists_are_the_asker_s_own(self):
        told = pieces(EMPTY)
        told.reverse()
        told.append(None)
        self.tells([(0,), (1,), (2,)], pieces, EMPTY)
        self.assertIsNot(pieces(EMPTY), pieces(EMPTY))

    def test_no_table(self):
        for thing in no_tables():
            self.refuses(NoTable, pieces, thing)

    def test_by_name(self):
        self.tells([(0, 1, 2)], pieces, table=ROUND)


class Joined(Case):
    def test_written_out(self):
        self.tells(True, joined, ROUND)
        self.tells(False, joined, EMPTY)
        self.tells(False, joined, LATE)
        self.tells(True, joined, ((0,),))
        self.tells(True, joined, ((2,),))
        self.tells(False, joined, ((1, 1), (0, 1)))
        self.tells(False, joined, ((1, 0), (1, 1)))

    def test_many(self):
        for table in many_tables() + scarce_tables(42, 6):
            self.tells(len(pieces_wanted(table)) == 1, joined, table)

    def test_no_table(self):
        for thing in no_tables():
            self.refuses(NoTable, joined, thing)

    def test_by_name(self):
        self.tells(True, joined, table=ROUND)


class Ladder(Case):
    def test_written_out(self):
        self.tells([(0, 1, 2)], ladder, ROUND)
        self.tells([(0,), (1,), (2,)], ladder, EMPTY)
        self.tells([(2,), (1,), (0,)], ladder, table_of(3, {(2, 1), (1, 0)}))

    def test_a_least_place_that_does_not_decide_at_once(self):
        self.tells([(1,), (2,), (0,)], ladder, LATE)
        self.tells([(1,), (3,), (0,), (2,)], ladder, table_of(4, {(3, 0), (1, 2), (0, 2)}))
        self.tells([(1,), (2,), (3,), (0,)], ladder, table_of(4, {(3, 0), (1, 2)}))
        three = {(1, 5), (5, 1), (0, 4), (4, 0), (2, 3), (3, 2)}
        self.tells([(1, 5), (0, 4), (2, 3)], ladder, table_of(6, three | {(5, 4)}))

    def test_arrows_from_any_place_of_a_piece(self):
        self.tells([(1, 2), (0, 3)], ladder, table_of(4, {(1, 2), (2, 1), (0, 3), (3, 0), (2, 3)}))

    def test_many(self):
        for table in many_tables() + scarce_tables(42, 6):
            self.tells(ladder_wanted(table), ladder, table)

    def test_lists_are_the_asker_s_own(self):
        told = ladder(LATE)
        told.clear()
        self.tells([(1,), (2,), (0,)], ladder, LATE)
        pieces(LATE).clear()
        self.tells([(1,), (2,), (0,)], ladder, LATE)
        self.tells([(0,), (1,), (2,)], pieces, LATE)
        self.assertIsNot(ladder(LATE), ladder(LATE))

    def test_no_table(self):
        for thing in no_tables():
            self.refuses(NoTable, ladder, thing)

    def test_by_name(self):
        self.tells([(1,), (2,), (0,)], ladder, table=LATE)


class Part(Case):
    def test_written_out(self):
        table = ((1, 2, 3), (4, 5, 6), (7, 8, 9))
        self.tells(((5,),), part, table, (1,))
        self.tells(((1, 3), (7, 9)), part, table, (0, 2))
        self.tells(((5, 6), (8, 9)), part, table, (1, 2))
        self.tells(table, part, table, (0, 1, 2))

    def test_every_set_but_the_empty_one(self):
        for size in range(1, 7):
            table = tuple([tuple([10 * row + place for place in range(size)]) for row in range(size)])
            for some in sets_of(size):
                if some:
                    wanted = tuple([tuple([10 * row + place for place in some]) for row in some])
                    self.tells(wanted, part, table, some)

    def test_numbers_stay_as_they_are(self):
        self.tells(((0, 10 ** 40), (7, 0)), part, ((0, 1, 10 ** 40), (2, 3, 4), (7, 5, 0)), (0, 2))

    def test_no_set(self):
        for size in range(1, 7):
            for thing in [()] + no_sets(size):
                self.refuses(NoSet, part, square(size, 1), thing)

    def test_truths_though_a_set_like_them_was_asked(self):
        self.tells(((1, 0), (0, 0)), part, ((1, 0), (0, 0)), (0, 1))
        self.refuses(NoSet, part, ((1, 0), (0, 0)), (False, True))
        self.refuses(NoSet, part, ((1, 0), (0, 0)), (0, True))

    def test_no_table_ahead_of_no_set(self):
        for thing in no_tables():
            for some in ((0,), (), None, [0], (1, 0)):
                self.refuses(NoTable, part, thing, some)

    def test_by_name(self):
        self.tells(((4,),), part, table=((1, 2), (3, 4)), some=(1,))
        self.tells(((4,),), part, some=(1,), table=((1, 2), (3, 4)))
        self.tells(((4,),), part, ((1, 2), (3, 4)), some=(1,))


if __name__ == "__main__":
    unittest.main()
