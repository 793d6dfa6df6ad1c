import itertools
import unittest

from firstpowers.errors import NoTable
from firstpowers.firsts import first_holds, first_power, why_first
from firstpowers.nevers import why_never
from firstpowers.powers import power
from firstpowers.tables import full
from tests.support import (
    Case, Numbers, all_mark_tables, first_wanted, in_tuples, no_places, no_sets, no_tables, round_table, sets_of,
    shuffled, slow_table, square, table_of, tables_of_all_sorts, whatever, with_first,
)

FIBONACCI = ((0, 5), (6, 7))
FIBONACCI_WALKS = (((0, 1, 0), (0, 1, 1)), ((1, 1, 0), (1, 1, 1)))
FIBONACCI_PAPER = 2, FIBONACCI_WALKS, (0, 0, ((0,), (1,)))


def first_by_products(table):
    """The first power without a nought, its numbers reckoned, one power after another up to 60."""
    size = range(len(table))
    now = table
    for k in range(1, 61):
        if all(number > 0 for row in now for number in row):
            return k
        now = tuple([tuple([sum([now[i][by] * table[by][j] for by in size]) for j in size]) for i in size])
    return None


def heads(table, place):
    return [head for head, number in enumerate(table[place]) if number]


def walk_wanted(table, one, other, k):
    """The last walk of k steps between two places, as tuples rise; None where there is none."""
    come = [{other}]
    while len(come) <= k:
        come.append({place for place in range(len(table)) if come[-1] & set(heads(table, place))})
    if one not in come[k]:
        return None
    walk = [one]
    for left in reversed(come[:k]):
        walk.append(max([head for head in heads(table, walk[-1]) if head in left]))
    return tuple(walk)


def walks_wanted(table, k):
    places = range(len(table))
    return tuple([tuple([walk_wanted(table, one, other, k) for other in places]) for one in places])


def sets_from(table, one, k):
    """The sets that 0, 1 and so on steps lead to from a place, k of them."""
    told = [{one}]
    while len(told) < k:
        told.append({head for place in told[-1] for head in heads(table, place)})
    return tuple([tuple(sorted(some)) for some in told])


def gaps_wanted(table, k):
    """All gaps of the power ahead of k, the sets being no greater than they must."""
    if k == 1:
        return [None]
    told = []
    for one in range(len(table)):
        sets = sets_from(table, one, k)
        told += [(one, other, sets) for other in range(len(table)) if other not in sets[-1]]
    return told


def gap_shows(table, k, one, other, sets):
    """Whether a gap, its form being right, shows that the power ahead of k has a nought."""
    on = all(head in sets[t + 1] for t in range(len(sets) - 1) for place in sets[t] for head in heads(table, place))
    return len(sets) == k and one in sets[0] and on and other not in sets[-1]


def papers_wanted(table):
    k = first_wanted(table)
    return [(k, walks_wanted(table, k), gap) for gap in gaps_wanted(table, k)]


def put(row, at, thing):
    return row[:at] + (thing,) + row[at + 1:]


def put_walk(walks, one, other, thing):
    return put(walks, one, put(walks[one], other, thing))


def many_tables(seed):
    return tables_of_all_sorts(seed, 3) + all_mark_tables(4)[::301]


def few_tables(seed):
    """Tables with a first power, of each size, some slow ones among them."""
    slow = [slow_table(size) for size in range(2, 7)]
    return with_first(tables_of_all_sorts(seed, 1))[::9] + slow + [FIBONACCI, ((4,),), square(2, 1), square(6, 1)]


class FirstPower(Case):
    def test_written_out(self):
        self.tells(2, first_power, FIBONACCI)
        self.tells(1, first_power, ((1, 2), (3, 4)))
        self.tells(1, first_power, ((7,),))
        self.tells(None, first_power, ((0,),))
        self.tells(None, first_power, ((0, 1), (1, 0)))
        self.tells(None, first_power, ((1, 1), (0, 1)))
        self.tells(2, first_power, ((1, 1, 0), (0, 1, 1), (1, 0, 1)))

    def test_the_slowest_ones(self):
        numbers = Numbers(91)
        for size, k in ((2, 2), (3, 5), (4, 10), (5, 17), (6, 26)):
            self.tells(k, first_power, slow_table(size))
            for again in range(5):
                self.tells(k, first_power, shuffled(numbers, slow_table(size)))

    def test_full_empty_and_round(self):
        for size in range(1, 7):
            self.tells(1, first_power, square(size, 10 ** 40))
            self.tells(None, first_power, square(size, 0))
            if size > 1:
                self.tells(None, first_power, round_table(size))

    def test_one_nought_alone(self):
        for size in range(2, 7):
            every = set(itertools.product(range(size), repeat=2))
            for i, j in sorted(every):
                wanted = None if size == 2 and i != j else 2
                self.tells(wanted, first_power, table_of(size, every - {(i, j)}))

    def test_against_powers_multiplied_one_by_one(self):
        some = 0
        for table in many_tables(92):
            wanted = first_by_products(table)
            self.assertEqual(wanted, first_wanted(table))
            self.tells(wanted, first_power, table)
            some += wanted is not None
        self.assertGreater(some, 300)

    def test_no_greater_power_has_a_nought_and_each_less_has(self):
        for table in few_tables(93):
            first = first_power(table)
            for k in range(1, 61, 1 if len(table) < 4 else 3):
                self.assertEqual(full(power(table, k)), k >= first)
            self.assertTrue(full(power(table, first)))
            self.assertFalse(first > 1 and full(power(table, first - 1)))

    def test_just_one_of_both(self):
        for table in many_tables(94):
            self.assertNotEqual(first_power(table) is None, why_never(table) is None)

    def test_no_table(self):
        for thing in no_tables():
            self.refuses(NoTable, first_power, thing)

    def test_by_name(self):
        self.tells(2, first_power, table=FIBONACCI)


class FirstHolds(Case):
    def test_written_out(self):
        self.tells(True, first_holds, FIBONACCI, FIBONACCI_PAPER)
        self.tells(True, first_holds, ((3,),), (1, (((0, 0),),), None))
        self.tells(False, first_holds, ((0,),), (1, (((0, 0),),), None))
        walks = tuple([tuple([(i, j) for j in range(2)]) for i in range(2)])
        self.tells(True, first_holds, ((1, 2), (3, 4)), (1, walks, None))
        self.tells(False, first_holds, FIBONACCI, (1, walks, None))

    def test_papers_made_apart(self):
        for table in with_first(tables_of_all_sorts(95, 1)):
            for paper in papers_wanted(table):
                self.tells(True, first_holds, table, paper)

    def test_one_more(self):
        for table in few_tables(96):
            k, walks, gap = papers_wanted(table)[0]
            walks = walks_wanted(table, k + 1)
            self.tells(False, first_holds, table, (k + 1, walks, gap))
            self.tells(False, first_holds, table, (k + 1, walks, None))
            for one in range(len(table)):
                for other in range(len(table)):
                    exact = sets_from(table, one, k + 1)
                    self.tells(False, first_holds, table, (k + 1, walks, (one, other, exact)))
                    self.tells(False, first_holds, table, (k + 1, walks, (one, other, ((one,),) * (k + 1))))
                    self.tells(False, first_holds, table, (k + 1, walks, (one, other, exact[:k] + ((),))))
                    self.tells(False, first_holds, table, (k + 1, walks, (one, other, exact[:k])))

    def test_one_less(self):
        for table in few_tables(97):
            k, walks, gap = papers_wanted(table)[0]
            if k > 1:
                lacking = walks_wanted(table, k - 1)
                filled = tuple([
                    tuple([walk or (i,) * (k - 1) + (j,) for j, walk in enumerate(row)])
                    for i, row in enumerate(lacking)
                ])
                shorter = tuple([tuple([walk[:-1] for walk in row]) for row in walks])
                for less in (lacking, filled, shorter, walks):
                    for gap_less in (gaps_wanted(table, k - 1) if k > 2 else []) + [gap, None]:
                        self.tells(False, first_holds, table, (k - 1, less, gap_less))

    def test_the_number_otherwise(self):
        for table in few_tables(98):
            k, walks, gap = papers_wanted(table)[0]
            kinds = [None, True, False, "1", str(k), [k], (k,), {k: k}, "", []]
            for other in [k - 1, k + 1, 0, -1, -k, 10 ** 31 - 1] + kinds:
                self.tells(False, first_holds, table, (other, walks, gap))

    def test_no_steps_show_nothing(self):
        for number in (0, 1):
            for gap in (None, (0, 0, ()), (0, 0, ((),)), (0, 0, ((0,),))):
                self.tells(False, first_holds, ((number,),), (0, (((0,),),), gap))

    def test_truths_though_papers_like_them_were_asked(self):
        self.tells(True, first_holds, ((1,),), (1, (((0, 0),),), None))
        self.tells(False, first_holds, ((1,),), (True, (((0, 0),),), None))
        self.tells(False, first_holds, ((1,),), (1, (((False, False),),), None))
        self.tells(False, first_holds, ((1,),), (1, (((0, 0),),), False))
        self.tells(True, first_holds, FIBONACCI, FIBONACCI_PAPER)
        self.tells(False, first_holds, FIBONACCI, (2, FIBONACCI_WALKS, (False, 0, ((0,), (1,)))))
        self.tells(False, first_holds, FIBONACCI, (2, FIBONACCI_WALKS, (0, False, ((0,), (1,)))))
        self.tells(False, first_holds, FIBONACCI, (2, FIBONACCI_WALKS, (0, 0, ((False,), (1,)))))
        self.tells(False, first_holds, FIBONACCI, (2, FIBONACCI_WALKS, (0, 0, ((0,), (True,)))))

    def test_another_walk_that_is_one(self):
        table = table_of(3, {(i, j) for i in range(3) for j in range(3)} - {(0, 0)})
        walks = walks_wanted(table, 2)
        for one in range(3):
            for other in range(3):
                for by in range(3):
                    thing = 2, put_walk(walks, one, other, (one, by, other)), (0, 0, ((0,), (1, 2)))
                    self.tells(bool(table[one][by] and table[by][other]), first_holds, table, thing)

    def test_one_walk_otherwise(self):
        for table in few_tables(99):
            size = len(table)
            k, walks, gap = papers_wanted(table)[0]
            for one, other in list(itertools.product(range(size), repeat=2))[::1 if size < 4 else 5]:
                walk = walks[one][other]
                bent = [
                    walk[:-1], walk[1:], walk + (other,), walk + tuple(heads(table, other)[:1]),
                    (one,) + walk, list(walk), (walk,), [walk], (), None, True, 0, "0", {}, walk[:1], walk * 2,
                    put(walk, 0, size), put(walk, k, size), put(walk, k, -1), put(walk, 1, None), put(walk, 1, "1"),
                    put(walk, 0, bool(one)), put(walk, k, bool(other)), put(walk, k, [other]), put(walk, 0, (one,)),
                    walk_wanted(table, one, other, k + 1), walk_wanted(table, one, other, k - 1),
                ]
                bent += [walks[one][away] for away in range(size) if away != other]
                bent += [walks[away][other] for away in range(size) if away != one]
                for thing in bent:
                    self.tells(False, first_holds, table, (k, put_walk(walks, one, other, thing), gap))

    def test_an_arrow_that_is_none(self):
        for table in few_tables(100):
            k, walks, gap = papers_wanted(table)[0]
            walk = walks[0][-1]
            for at in range(1, k):
                for place in range(len(table)):
                    thing = put(walk, at, place)
                    wanted = all(table[i][j] for i, j in zip(thing, thing[1:]))
                    self.tells(wanted, first_holds, table, (k, put_walk(walks, 0, len(table) - 1, thing), gap))

    def test_walks_of_another_form(self):
        for table in few_tables(101):
            k, walks, gap = papers_wanted(table)[0]
            flat = tuple([walk for row in walks for walk in row])
            for thing in (
                list(walks), tuple(map(list, walks)), put(walks, 0, list(walks[0])), walks[:-1], walks[1:],
                walks + walks[:1], walks + (None,), put(walks, 0, walks[0][:-1]),
                put(walks, 0, walks[0] + walks[0][:1]), put(walks, len(walks) - 1, walks[-1][1:]),
                put(walks, 0, walks[0] + (None,)), put(walks, 0, None), put(walks, 0, ()), (), (walks,), flat * 7,
                None, True, 1, "", {}, dict(enumerate(walks)),
                put(walks, 0, dict(enumerate(walks[0]))), put(walks, 0, "0"), put(walks, 0, 0), put(walks, 0, True),
            ):
                self.tells(False, first_holds, table, (k, thing, gap))

    def test_rows_and_places_swapped(self):
        # The walks are those from i to j, not from j to i.
        for table in few_tables(102):
            if len(table) > 1:
                k, walks, gap = papers_wanted(table)[0]
                self.tells(False, first_holds, table, (k, tuple(zip(*walks)), gap))
                self.tells(False, first_holds, table, (k, walks[::-1], gap))

    def test_the_gap_of_1_is_none(self):
        for size in range(1, 7):
            table = square(size, 1)
            k, walks, gap = papers_wanted(table)[0]
            self.tells(True, first_holds, table, (1, walks, None))
            for thing in [(0, 0, ((0,),)), (0, 0, ((),)), (0, 0, ()), (), 0, False, "", "None", [], {}, (None,)]:
                self.tells(False, first_holds, table, (1, walks, thing))

    def test_no_gap_where_one_is_due(self):
        for table in few_tables(103):
            k, walks, gap = papers_wanted(table)[0]
            if k > 1:
                for thing in whatever() + in_tuples() + [(), (None,) * 3, (0, 0, ()), (0, 0, None), (0, 0, 0)]:
                    self.tells(False, first_holds, table, (k, walks, thing))

    def test_all_gaps_of_small_tables(self):
        tables = all_mark_tables(2) + with_first(all_mark_tables(3))[::17]
        for table in with_first(tables):
            k = first_wanted(table)
            walks = walks_wanted(table, k)
            if 2 <= k <= 3:
                for sets in itertools.product(sets_of(len(table)), repeat=k):
                    for one, other in itertools.product(range(len(table)), repeat=2):
                        wanted = gap_shows(table, k, one, other, sets)
                        self.assertIs(first_holds(table, (k, walks, (one, other, sets))), wanted)

    def test_no_gap_of_a_greater_number_holds(self):
        walks = walks_wanted(FIBONACCI, 3)
        for sets in itertools.product(sets_of(2), repeat=3):
            for one, other in itertools.product(range(2), repeat=2):
                self.tells(False, first_holds, FIBONACCI, (3, walks, (one, other, sets)))

    def test_one_set_otherwise(self):
        for table in few_tables(104):
            for k, walks, gap in papers_wanted(table)[:2] if first_wanted(table) > 1 else []:
                one, other, sets = gap
                for at in range(k):
                    for some in sets_of(len(table))[::1 if len(table) < 5 else 3]:
                        thing = one, other, put(sets, at, some)
                        self.tells(gap_shows(table, k, *thing), first_holds, table, (k, walks, thing))

    def test_sets_with_more_than_they_must(self):
        # Arrows go from 0 and from 1 to 2 and 3 alone.
        table = table_of(4, {(0, 2), (0, 3), (1, 2), (1, 3), (2, 0), (2, 1), (3, 0), (3, 1), (2, 2)})
        k = first_wanted(table)
        walks = walks_wanted(table, k)
        self.assertEqual(k, 4)
        for gap in gaps_wanted(table, k):
            one, other, sets = gap
            wider = tuple(sorted(set(range(4)) - {other}))
            self.tells(True, first_holds, table, (k, walks, gap))
            self.tells(True, first_holds, table, (k, walks, (one, other, put(sets, k - 1, wider))))
            self.tells(False, first_holds, table, (k, walks, (one, other, put(sets, k - 1, (0, 1, 2, 3)))))

    def test_sets_that_are_none(self):
        for table in (FIBONACCI, slow_table(4), slow_table(6)):
            k, walks, (one, other, sets) = papers_wanted(table)[0]
            for at in {0, 1, k - 1}:
                for thing in no_sets(len(table)):
                    self.tells(False, first_holds, table, (k, walks, (one, other, put(sets, at, thing))))
                twice, falling = sets[at] + sets[at][-1:], sets[at][::-1]
                self.tells(False, first_holds, table, (k, walks, (one, other, put(sets, at, twice))))
                self.tells(len(falling) < 2, first_holds, table, (k, walks, (one, other, put(sets, at, falling))))
                self.tells(False, first_holds, table, (k, walks, (one, other, put(sets, at, list(sets[at])))))

    def test_ends_of_the_gap_otherwise(self):
        for table in few_tables(105):
            for k, walks, (one, other, sets) in papers_wanted(table)[:3] if first_wanted(table) > 1 else []:
                for away in range(len(table)):
                    thing = away, other, sets
                    self.tells(gap_shows(table, k, *thing), first_holds, table, (k, walks, thing))
                    thing = one, away, sets
                    self.tells(gap_shows(table, k, *thing), first_holds, table, (k, walks, thing))
                for away in no_places(len(table)):
                    self.tells(False, first_holds, table, (k, walks, (away, other, sets)))
                    self.tells(False, first_holds, table, (k, walks, (one, away, sets)))

    def test_gaps_of_another_form(self):
        for table in few_tables(106):
            for k, walks, (one, other, sets) in papers_wanted(table)[:3] if first_wanted(table) > 1 else []:
                longer = sets + (sets_from(table, one, k + 1)[-1],)
                for thing in (
                    [one, other, sets], (one, other, list(sets)), (one, sets), (other, sets), (one, other), (sets,),
                    (one, other, sets, None), (one, other) + sets * 3, (sets, one, other), ((one, other), sets),
                    (one, other, sets[:-1]), (one, other, sets[1:]), (one, other, longer), (one, other, sets + ((),)),
                    (one, other, sets * 2), (one, other, (sets,)), (one, other, dict(enumerate(sets))),
                    ((one, other, sets),), (one, other, None), (one, other, "0" * k),
                    (one, other, (0,) * k), (one, other, (None,) * k),
                ):
                    self.tells(False, first_holds, table, (k, walks, thing))

    def test_papers_of_another_form(self):
        for table in few_tables(107):
            k, walks, gap = papers_wanted(table)[0]
            for thing in (
                [k, walks, gap], (k, walks), (k,), (walks, gap), (k, gap), (k, walks, gap, None), (k, gap, walks),
                (walks, k, gap), ((k, walks, gap),), [(k, walks, gap)], {"k": k}, {k: (walks, gap)}, (), walks, gap, k,
            ):
                self.tells(False, first_holds, table, thing)

    def test_whatever_is_handed_in(self):
        for size in range(1, 7):
            for table in (square(size, 0), square(size, 1), slow_table(size) if size > 1 else ((5,),)):
                for thing in whatever() + in_tuples() + [()]:
                    for paper in (thing, (thing,) * 3, (1, thing, None), (1, (thing,) * size, None), (thing, (), None),
                                  (1, ((thing,) * size,) * size, None), (2, ((thing,) * size,) * size, thing)):
                        self.tells(False, first_holds, table, paper)

    def test_none_where_there_is_no_first_power(self):
        for table in (((0,),), round_table(2), round_table(3), ((1, 1), (0, 1)), square(2, 0)):
            for k in range(1, 6):
                walks = walks_wanted(table, k)
                filled = tuple([tuple([walk or (i, j) for j, walk in enumerate(row)]) for i, row in enumerate(walks)])
                for gap in gaps_wanted(table, k)[:4] + [None]:
                    self.tells(False, first_holds, table, (k, walks, gap))
                    self.tells(False, first_holds, table, (k, filled, gap))

    def test_the_paper_of_another_table(self):
        # The walks are there in the fuller table, too, but the gap is not.
        self.tells(False, first_holds, ((1, 5), (6, 7)), FIBONACCI_PAPER)
        self.tells(False, first_holds, ((0, 5), (6, 0)), FIBONACCI_PAPER)
        self.tells(True, first_holds, ((0, 1), (1, 1)), FIBONACCI_PAPER)
        self.tells(False, first_holds, square(3, 1), FIBONACCI_PAPER)
        self.tells(False, first_holds, ((1,),), FIBONACCI_PAPER)

    def test_no_table(self):
        for table in no_tables():
            for thing in (FIBONACCI_PAPER, (1, (((0, 0),),), None), None, (), []):
                self.refuses(NoTable, first_holds, table, thing)

    def test_by_name(self):
        self.tells(True, first_holds, table=FIBONACCI, thing=FIBONACCI_PAPER)
        self.tells(False, first_holds, thing=None, table=FIBONACCI)
        self.tells(True, first_holds, FIBONACCI, thing=FIBONACCI_PAPER)


class WhyFirst(Case):
    def shows_first(self, table, paper):
        """The paper is one, each of its parts looked at apart from first_holds."""
        k, walks, gap = paper
        self.assertEqual(k, first_wanted(table))
        self.assertEqual(len(walks), len(table))
        for one, row in enumerate(walks):
            self.assertEqual(len(row), len(table))
            for other, walk in enumerate(row):
                self.assertEqual((len(walk), walk[0], walk[-1]), (k + 1, one, other))
                self.assertTrue(all(table[i][j] for i, j in zip(walk, walk[1:])))
        if k == 1:
            self.assertIsNone(gap)
        else:
            self.assertTrue(gap_shows(table, k, *gap))
            self.assertIn(gap[0], range(len(table)))
            self.assertIn(gap[1], range(len(table)))
            self.assertTrue(all(some in sets_of(len(table)) for some in gap[2]))

    def test_just_where_there_is_a_first_power(self):
        some = 0
        for table in many_tables(121):
            paper = self.ask(why_first, table)
            if first_wanted(table) is None:
                self.tells(None, why_first, table)
            else:
                self.assertIsInstance(paper, tuple)
                self.shows_first(table, paper)
                self.tells(True, first_holds, table, paper)
                self.tells(paper, why_first, table)
                some += 1
        self.assertGreater(some, 300)

    def test_slow_tables(self):
        for size in range(2, 7):
            paper = self.ask(why_first, slow_table(size))
            self.assertEqual(paper[0], (size - 1) ** 2 + 1)
            self.shows_first(slow_table(size), paper)
            self.tells(True, first_holds, slow_table(size), paper)

    def test_of_1(self):
        for size in range(1, 7):
            walks = tuple([tuple([(i, j) for j in range(size)]) for i in range(size)])
            self.tells((1, walks, None), why_first, square(size, 2))

    def test_none(self):
        for size in range(1, 7):
            self.tells(None, why_first, square(size, 0))
            if size > 1:
                self.tells(None, why_first, round_table(size))

    def test_no_table(self):
        for thing in no_tables():
            self.refuses(NoTable, why_first, thing)

    def test_by_name(self):
        self.tells(why_first(FIBONACCI), why_first, table=FIBONACCI)
        self.tells(None, why_first, table=((0,),))


if __name__ == "__main__":
    unittest.main()
