import itertools
import unittest

from firstpowers.errors import NoTable
from firstpowers.nevers import never_holds, why_never
from tests.support import (
    Case, Numbers, all_mark_tables, first_wanted, in_tuples, no_sets, no_tables, round_table, sets_of, slow_table,
    square, table_of, tables_of_all_sorts, turning_table, whatever,
)

DOWN = table_of(4, {(0, 1), (1, 0), (1, 2), (3, 0), (3, 1), (3, 2)})


def arrows_of(table):
    return [(i, j) for i, row in enumerate(table) for j, number in enumerate(row) if number]


def shows_by_shut(table, some):
    """Whether a set of places shows that there is no first power, each arrow looked at."""
    inside = [j in some for i, j in arrows_of(table) if i in some]
    return 0 < len(some) < len(table) and all(inside)


def shows_by_turns(table, d, rests):
    return d > 1 and all((rests[i] + 1 - rests[j]) % d == 0 for i, j in arrows_of(table))


def shows(table, paper):
    """Whether a paper, its form being right, shows that there is no first power."""
    if paper[0] == "shut":
        return shows_by_shut(table, *paper[1:])
    return shows_by_turns(table, *paper[1:])


def has_form(size, paper):
    """Whether a paper has the form of one of both kinds, for tables of a size."""
    if type(paper) is not tuple or paper[0] not in ("shut", "turns"):
        return False
    if paper[0] == "shut":
        return len(paper) == 2 and paper[1] in sets_of(size)
    kind, d, rests = paper
    return d in range(1, 7) and type(rests) is tuple and len(rests) == size and all(rest in range(d) for rest in rests)


def bent_shuts(some):
    """Papers near to that of a shut set, none of which is one."""
    return [
        some, (some,), ("shut",), ("shut", some, some), ("shut", some, None), ["shut", some], ("shut", list(some)),
        ["shut", list(some)], ("turns", some), ("Shut", some), ("shut ", some), ("", some), (None, some),
        (some, "shut"), ("shut", (some,)), ("shut", [some]), ("shut", {0: 0}), {"shut": some}, (("shut", some),),
        ("shut", "shut"), (["shut"], some), (("shut",), some), ({"shut": 0}, some), (True, some), (0, some),
        ("shut", some + some), ("shut", ("shut", some)), ("shut",) + some + (None,), [("shut", some)],
        ("shut", tuple(map(bool, some))), ("shut", tuple(map(str, some))), ("shut", "".join(map(str, some))),
    ]


def bent_turns(d, rests):
    """Papers near to that of turns, none of which is one."""
    return [
        (d, rests), ("turns", (d, rests)), ("turns", d), ("turns", rests), ("turns",), ("turns", rests, d),
        ("turns", d, rests, None), ("turns", d, rests, rests), ["turns", d, rests], ("turns", d, list(rests)),
        ("turns", [d], rests), ("turns", (d,), rests), ("turns", str(d), rests), ("turns", None, rests),
        ("turns", True, rests), ("turns", False, rests), ("turns", 0, rests), ("turns", 1, (0,) * len(rests)),
        ("turns", 7, rests), ("turns", -d, rests), ("turns", 10 ** 30, rests), ("turns", d, rests[1:]),
        ("turns", d, rests + (0,)), ("turns", d, rests[:-1] + (d,)), ("turns", d, rests[:-1] + (-1,)),
        ("turns", d, rests[:-1] + (None,)), ("turns", d, rests[:-1] + (True,)), ("turns", d, rests[:-1] + (False,)),
        ("turns", d, rests[:-1] + ([],)), ("turns", d, (rests,)), ("turns", d, "0" * len(rests)),
        ("turns", d, {0: 0}), ("turns", d, None), ("shut", d, rests), ("Turns", d, rests), ("turn", d, rests),
        ("", d, rests), (None, d, rests), (d, "turns", rests), {"turns": (d, rests)}, (("turns", d, rests),),
        (["turns"], d, rests), (("turns",), d, rests), ("turns", "turns", "turns"), ("turns", d) + rests + (0, 0),
    ]


class NeverHolds(Case):
    def test_written_out(self):
        self.tells(True, never_holds, DOWN, ("shut", (2,)))
        self.tells(True, never_holds, DOWN, ("shut", (0, 1, 2)))
        self.tells(False, never_holds, DOWN, ("shut", (0, 1)))
        self.tells(True, never_holds, round_table(4), ("turns", 2, (0, 1, 0, 1)))
        self.tells(True, never_holds, round_table(4), ("turns", 4, (2, 3, 0, 1)))
        self.tells(False, never_holds, round_table(4), ("turns", 3, (0, 1, 2, 0)))
        self.tells(True, never_holds, ((0,),), ("turns", 2, (0,)))
        self.tells(True, never_holds, ((0,),), ("turns", 6, (5,)))
        self.tells(False, never_holds, ((1,),), ("turns", 2, (0,)))

    def test_a_shut_set_of_none_or_of_all_shows_nothing(self):
        for size in range(1, 7):
            for table in (square(size, 0), square(size, 1), round_table(size)):
                self.tells(False, never_holds, table, ("shut", ()))
                self.tells(False, never_holds, table, ("shut", tuple(range(size))))

    def test_turns_of_1_show_nothing(self):
        for size in range(1, 7):
            for table in (square(size, 0), square(size, 1), round_table(size)):
                self.tells(False, never_holds, table, ("turns", 1, (0,) * size))

    def test_every_set(self):
        for table in tables_of_all_sorts(81, 1):
            for some in sets_of(len(table)):
                self.tells(shows_by_shut(table, some), never_holds, table, ("shut", some))

    def test_all_turns_of_small_tables(self):
        for table in [table for size in (1, 2) for table in all_mark_tables(size)] + all_mark_tables(3)[::11]:
            for d in range(1, 7):
                for rests in itertools.product(range(d), repeat=len(table)):
                    self.tells(shows_by_turns(table, d, rests), never_holds, table, ("turns", d, rests))

    def test_turns_of_great_tables_and_one_rest_otherwise(self):
        numbers = Numbers(82)
        for size in range(3, 7):
            for d in range(2, 7):
                for noughts in (0, 1, 3):
                    table, rests = turning_table(numbers, size, d, noughts)
                    self.tells(True, never_holds, table, ("turns", d, rests))
                    for place in range(size):
                        other = rests[:place] + ((rests[place] + 1) % d,) + rests[place + 1:]
                        self.tells(shows_by_turns(table, d, other), never_holds, table, ("turns", d, other))

    def test_bent_papers_of_shut_sets(self):
        for size in range(2, 7):
            for some in sets_of(size)[1:-1]:
                self.tells(True, never_holds, square(size, 0), ("shut", some))
                for thing in bent_shuts(some):
                    self.tells(False, never_holds, square(size, 0), thing)

    def test_bent_papers_of_turns(self):
        for size in range(1, 7):
            for d in range(2, 7):
                rests = tuple([place % d for place in range(size)])
                self.tells(True, never_holds, square(size, 0), ("turns", d, rests))
                for thing in bent_turns(d, rests):
                    self.tells(False, never_holds, square(size, 0), thing)

    def test_what_is_no_set(self):
        for size in range(1, 7):
            for thing in no_sets(size):
                self.tells(False, never_holds, square(size, 0), ("shut", thing))

    def test_whatever_is_handed_in(self):
        for size in range(1, 7):
            for table in (square(size, 0), square(size, 1), round_table(size)):
                for thing in whatever() + in_tuples() + [()]:
                    for paper in (thing, (thing, (0,)), ("shut", thing, thing), ("turns", thing, thing), (thing,) * 3):
                        self.tells(False, never_holds, table, paper)

    def test_no_table(self):
        for table in no_tables():
            for thing in (("shut", (0,)), ("turns", 2, (0,)), None, (), []):
                self.refuses(NoTable, never_holds, table, thing)

    def test_by_name(self):
        self.tells(True, never_holds, table=DOWN, thing=("shut", (2,)))
        self.tells(False, never_holds, thing=("shut", (1,)), table=DOWN)
        self.tells(True, never_holds, DOWN, thing=("shut", (2,)))


class WhyNever(Case):
    def shows_why(self, table):
        """The paper told is one, by its words and by never_holds, and the same again."""
        paper = self.ask(why_never, table)
        self.assertTrue(has_form(len(table), paper), (table, paper))
        self.assertTrue(shows(table, paper), (table, paper))
        self.tells(True, never_holds, table, paper)
        self.tells(paper, why_never, table)

    def test_without_arrows(self):
        for size in range(1, 7):
            self.shows_why(square(size, 0))

    def test_one_round(self):
        for size in range(2, 7):
            self.shows_why(round_table(size))
        self.tells(None, why_never, ((3,),))

    def test_one_arrow_out_and_none_back(self):
        for size in range(2, 7):
            lower = {(i, j) for i in range(size) for j in range(i + 1)}
            self.shows_why(table_of(size, lower))
            self.shows_why(table_of(size, {(j, i) for i, j in lower}))
            out = {(i, j) for i in range(size) for j in range(size) if i > 0 or j == 0}
            self.shows_why(table_of(size, out))
            self.shows_why(table_of(size, {(j, i) for i, j in out}))

    def test_none_where_there_is_a_first_power(self):
        for size in range(1, 7):
            self.tells(None, why_never, square(size, 1))
            if size > 1:
                self.tells(None, why_never, slow_table(size))

    def test_just_where_there_is_no_first_power(self):
        nevers = 0
        for table in tables_of_all_sorts(83, 4) + all_mark_tables(4)[::101]:
            if first_wanted(table) is None:
                self.shows_why(table)
                nevers += 1
            else:
                self.tells(None, why_never, table)
        self.assertGreater(nevers, 300)

    def test_none_holds_where_there_is_a_first_power(self):
        for table in all_mark_tables(3):
            if first_wanted(table) is not None:
                for some in sets_of(3):
                    self.tells(False, never_holds, table, ("shut", some))
                for d in range(1, 7):
                    for rests in itertools.product(range(d), repeat=3):
                        self.assertIs(never_holds(table, ("turns", d, rests)), False)

    def test_no_table(self):
        for thing in no_tables():
            self.refuses(NoTable, why_never, thing)

    def test_by_name(self):
        self.tells(why_never(DOWN), why_never, table=DOWN)
        self.tells(None, why_never, table=((0, 1), (1, 1)))


if __name__ == "__main__":
    unittest.main()
