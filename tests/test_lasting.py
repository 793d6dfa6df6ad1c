import itertools
import unittest

from firstpowers.errors import NoTables
from firstpowers.lasting import fence_holds, fence_of, lasting_holds, why_lasting
from firstpowers.many import all_full_from, full_way
from tests.support import (
    LATE_ALL, LATE_FULL, MANY_PRODUCTS, Case, Numbers, alike, all_mark_tables, in_tuples, is_full, marks_wanted,
    no_tables, product_wanted, products_by_length, round_table, several_tables, square, table_of, times, whatever,
    wrong_tables,
)

FIBONACCI = ((0, 5), (6, 7))
SWAP = ((0, 2), (3, 0))
UNIT = ((1, 0), (0, 1))
LOWER = ((1, 0), (4, 1))
# A place of noughts alone: behind it no product is full, whatever is ahead.
EMPTY_PLACE = ((3, 0), (2, 0))
EVEN = [table_of(2, set()), SWAP, UNIT]


def lasts(tables, ahead, again):
    """Whether the products along ahead and then along again, a hundred times, one by one, all have a nought."""
    marked = [marks_wanted(table) for table in tables]
    now = table_of(len(tables[0]), {(place, place) for place in range(len(tables[0]))})
    for at in ahead:
        now = times(now, marked[at])
    for more in range(100):
        for at in again:
            now = times(now, marked[at])
        if is_full(now):
            return False
    return True


def closed(tables, start):
    """The set of the start and of all that comes of it with the tables behind, one by one."""
    told = list(start)
    for each in told:
        told += [later for later in {times(each, table) for table in tables} if later not in told]
    return set(told)


def least_fence(tables):
    """All products, rising; None where one is full."""
    told = closed(tables, {marks_wanted(table) for table in tables})
    return None if any(map(is_full, told)) else tuple(sorted(told))


def is_fence(tables, posts):
    """Whether a rising tuple of tables of 0 and 1 of the tables' size is a fence."""
    inside = set(posts)
    return (
        not any(map(is_full, posts)) and all(marks_wanted(table) in inside for table in tables)
        and all(times(each, table) in inside for each in posts for table in tables)
    )


def lists_with_fence(seed, again):
    return [tables for tables in several_tables(seed, again) if least_fence(tables) is not None]


def odd_things():
    """Things of every kind, none of them a fence."""
    told = whatever() + in_tuples() + no_tables() + [(), ((),), ((), ()), ((), (), ()), (((),),)]
    return [thing for thing in told if thing != (((0,),),)]


def is_numbers(thing):
    """Whether a thing is a tuple of whole numbers alone, perhaps none, and so perhaps a way."""
    return isinstance(thing, tuple) and all(type(each) is int for each in thing)


class LastingHolds(Case):
    def test_written_out(self):
        self.tells(True, lasting_holds, [SWAP], ((), (0,)))
        self.tells(True, lasting_holds, [SWAP], ((0, 0), (0, 0, 0)))
        self.tells(False, lasting_holds, [FIBONACCI], ((), (0,)))
        self.tells(True, lasting_holds, [FIBONACCI, SWAP], ((), (1,)))
        self.tells(True, lasting_holds, [FIBONACCI, SWAP], ((0,), (1,)))
        self.tells(False, lasting_holds, [FIBONACCI, SWAP], ((0, 0), (1,)))
        self.tells(False, lasting_holds, [FIBONACCI, SWAP], ((1,), (0,)))
        self.tells(True, lasting_holds, [((0,),)], ((), (0,)))
        self.tells(False, lasting_holds, [((2,),)], ((), (0,)))

    def test_what_is_ahead_alone_may_be_full(self):
        # The round is gone once or more often, and behind it the product has a 0.
        self.tells(True, lasting_holds, [square(2, 1), EMPTY_PLACE], ((0,), (1,)))
        self.tells(True, lasting_holds, [square(2, 1), EMPTY_PLACE], ((0, 0), (0, 1)))
        self.tells(False, lasting_holds, [square(2, 1), EMPTY_PLACE], ((1,), (1, 0)))

    def test_within_the_round_it_may_be_full(self):
        # Only at the round's end is the product looked at.
        self.tells(True, lasting_holds, [square(2, 1), EMPTY_PLACE], ((), (0, 1)))
        self.tells(False, lasting_holds, [square(2, 1), EMPTY_PLACE], ((), (1, 0)))

    def test_a_round_that_is_full_only_when_gone_often(self):
        slow = ((0, 1, 0), (0, 0, 1), (1, 1, 0))
        self.tells(False, lasting_holds, [slow], ((), (0,)))
        self.tells(False, lasting_holds, [slow, round_table(3)], ((1, 1), (0,)))
        self.tells(True, lasting_holds, [slow, round_table(3)], ((0, 0), (1, 1)))

    def test_all_short_papers(self):
        told = set()
        for tables in several_tables(321, 1)[::2]:
            places = range(len(tables))
            for long, longer in itertools.product((0, 1, 2), (1, 2, 3)):
                for ahead in itertools.product(places, repeat=long):
                    for again in list(itertools.product(places, repeat=longer))[::2]:
                        wanted = lasts(tables, ahead, again) if longer == 1 or len(tables) < 3 else None
                        if wanted is not None:
                            told.add(wanted)
                            self.assertIs(lasting_holds(tables, (ahead, again)), wanted)
        self.assertEqual(told, {True, False})

    def test_long_papers(self):
        numbers = Numbers(322)
        for tables in several_tables(323, 1)[::9] + [LATE_FULL, LATE_ALL, MANY_PRODUCTS]:
            for long, longer in ((0, 1), (0, 9), (30, 1), (7, 5), (40, 40)):
                ahead = tuple([numbers.below(len(tables)) for at in range(long)])
                again = tuple([numbers.below(len(tables)) for at in range(longer)])
                self.tells(lasts(tables, ahead, again), lasting_holds, tables, (ahead, again))

    def test_as_many_places_as_may_be_and_one_beyond(self):
        for tables, place in (([SWAP], 0), ([FIBONACCI, SWAP], 1), ([((0,),)], 0), ([square(3, 1), round_table(3)], 1)):
            for ahead, again, wanted in (
                (0, 1, True), (1, 1, True), (0, 600, True), (600, 1, True), (600, 600, True), (599, 599, True),
                (601, 1, False), (0, 601, False), (600, 601, False), (601, 600, False), (601, 601, False),
                (700, 1, False), (0, 0, False), (5, 0, False), (600, 0, False), (601, 0, False),
            ):
                paper = (place,) * ahead, (place,) * again
                self.tells(wanted, lasting_holds, tables, paper)

    def test_far_places_count(self):
        tables = [UNIT, square(2, 1)]
        self.tells(True, lasting_holds, tables, ((0,) * 600, (0,) * 600))
        for at in (0, 300, 599):
            row = (0,) * at + (1,) + (0,) * (599 - at)
            self.tells(False, lasting_holds, tables, (row, (0,) * 600))
            self.tells(False, lasting_holds, tables, ((0,) * 600, row))

    def test_bent_ones(self):
        for tables in ([SWAP], [SWAP, SWAP], [SWAP, SWAP, UNIT]):
            many = len(tables)
            self.tells(True, lasting_holds, tables, ((0,), (0, 0)))
            for ahead in ([0], 0, None, "0", (many,), (-1,), (0, many), (False,), (True,), ("0",), ([0],), {0: 0}, [],
                          ((0,),), (0, None), (10 ** 30,), "", {}, True):
                self.tells(False, lasting_holds, tables, (ahead, (0, 0)))
                self.tells(False, lasting_holds, tables, ((0,), ahead))
                self.tells(False, lasting_holds, tables, (ahead, ahead))
            for thing in (
                [(0,), (0, 0)], ((0,), (0, 0), None), ((0,), (0, 0), (0,)), ((0,),), ((0, 0),), (0, 0), (0, (0, 0)),
                {(0,): (0, 0)}, (((0,), (0, 0)),), ((0,), ()), ((), ()), (), ("lasting", (0,), (0, 0)),
            ):
                self.tells(False, lasting_holds, tables, thing)

    def test_truths_though_papers_like_them_were_asked(self):
        self.tells(True, lasting_holds, [SWAP, UNIT], ((0,), (1,)))
        for ahead, again in (((False,), (1,)), ((0,), (True,)), ((False,), (True,))):
            self.tells(False, lasting_holds, [SWAP, UNIT], (ahead, again))

    def test_odd_things(self):
        for tables in ([SWAP], [((0,),), ((1,),)], LATE_ALL):
            for thing in odd_things():
                if not (isinstance(thing, tuple) and len(thing) == 2 and all(map(is_numbers, thing))):
                    self.tells(False, lasting_holds, tables, thing)
                if not is_numbers(thing):
                    self.tells(False, lasting_holds, tables, ((), thing))
                    self.tells(False, lasting_holds, tables, (thing, (0,)))

    def test_no_tables_ahead_of_all_else(self):
        for tables, at in wrong_tables():
            for thing in (((), (0,)), None, ()):
                self.bears(NoTables, {"at": at}, lasting_holds, tables, thing)

    def test_tables_are_told_of_as_they_are_when_asked(self):
        tables = [SWAP]
        self.tells(True, lasting_holds, tables, ((), (0,)))
        self.tells(False, lasting_holds, tables, ((), (1,)))
        tables.append(UNIT)
        self.tells(True, lasting_holds, tables, ((), (1,)))
        tables[0] = FIBONACCI
        self.tells(False, lasting_holds, tables, ((), (0,)))

    def test_by_name(self):
        self.tells(True, lasting_holds, tables=[SWAP], thing=((), (0,)))
        self.tells(False, lasting_holds, thing=None, tables=[SWAP])
        self.tells(True, lasting_holds, [SWAP], thing=((), (0,)))


class WhyLasting(Case):
    def test_just_where_no_number_is_such(self):
        numbers = Numbers(324)
        lists = several_tables(325, 3) + [[numbers.table(3, 1) for at in range(3)] for more in range(30)]
        told = set()
        for tables in lists:
            paper = self.ask(why_lasting, tables)
            every = any(all(map(is_full, products)) for products in products_by_length(tables))
            told.add(every)
            self.assertEqual(paper is None, every)
            self.assertEqual(paper is None, all_full_from(tables) is not None)
            if paper is not None:
                self.assertTrue(alike(paper, tuple(map(tuple, paper))))
                ahead, again = paper
                self.assertTrue(lasts(tables, ahead, again))
                self.assertTrue(len(ahead) <= 600 and 1 <= len(again) <= 600)
                self.assertLessEqual({*map(type, ahead + again)}, {int})
                self.tells(True, lasting_holds, tables, paper)
                self.tells(paper, why_lasting, tables)
        self.assertEqual(told, {True, False})

    def test_of_one_table(self):
        for size in (1, 2, 3):
            for table in all_mark_tables(size)[::1 if size < 3 else 7]:
                paper = why_lasting([table])
                self.assertEqual(paper is None, all_full_from([table]) is not None)
                if paper is not None:
                    self.assertTrue(lasts([table], *paper))

    def test_none(self):
        self.tells(None, why_lasting, [FIBONACCI])
        self.tells(None, why_lasting, [square(3, 2), square(3, 1)])
        self.tells(None, why_lasting, LATE_ALL)

    def test_a_full_product_on_the_way(self):
        for tables in ([square(2, 1), EMPTY_PLACE], [square(2, 1), ((1, 1), (0, 0))], [square(3, 1), square(3, 0)]):
            self.assertTrue(lasts(tables, *why_lasting(tables)))

    def test_no_tables(self):
        for thing, at in wrong_tables():
            self.bears(NoTables, {"at": at}, why_lasting, thing)

    def test_tables_are_told_of_as_they_are_when_asked(self):
        tables = [FIBONACCI]
        self.tells(None, why_lasting, tables)
        tables.append(SWAP)
        self.assertIn(1, why_lasting(tables)[1])
        tables.pop()
        self.tells(None, why_lasting, tables)

    def test_by_name(self):
        self.tells(None, why_lasting, tables=[FIBONACCI])


class FenceHolds(Case):
    def test_written_out(self):
        self.tells(True, fence_holds, [SWAP], (((0, 1), (1, 0)), ((1, 0), (0, 1))))
        self.tells(True, fence_holds, [UNIT], (((1, 0), (0, 1)),))
        self.tells(True, fence_holds, [((0,),)], (((0,),),))
        self.tells(False, fence_holds, [((1,),)], (((1,),),))
        self.tells(False, fence_holds, [SWAP], (((0, 1), (1, 0)),))
        self.tells(False, fence_holds, [SWAP], (((1, 0), (0, 1)),))
        self.tells(False, fence_holds, [SWAP], ())

    def test_the_least_fence(self):
        lists = lists_with_fence(326, 2)
        self.assertGreater(max([len(least_fence(tables)) for tables in lists]), 10)
        for tables in lists:
            self.tells(True, fence_holds, tables, least_fence(tables))

    def test_with_more_tables(self):
        more = 0
        for tables in lists_with_fence(327, 1):
            least = set(least_fence(tables))
            for extra in all_mark_tables(len(tables[0]))[::1 if len(tables[0]) < 3 else 23]:
                posts = tuple(sorted(least | closed(tables, {extra})))
                wanted = not any(map(is_full, posts))
                self.tells(wanted, fence_holds, tables, posts)
                more += wanted and len(posts) > len(least)
        self.assertGreater(more, 100)

    def test_with_one_out(self):
        for tables in lists_with_fence(328, 1):
            least = least_fence(tables)
            for at in range(len(least)):
                self.tells(False, fence_holds, tables, least[:at] + least[at + 1:])

    def test_with_one_out_of_a_greater_one(self):
        told = set()
        for tables in ([square(2, 0)], [((1, 0), (0, 0))], [SWAP], [square(2, 0), UNIT]):
            posts = tuple(sorted([table for table in all_mark_tables(2) if not is_full(table)]))
            for at in range(len(posts)):
                thing = posts[:at] + posts[at + 1:]
                told.add(is_fence(tables, thing))
                self.tells(is_fence(tables, thing), fence_holds, tables, thing)
            self.tells(is_fence(tables, posts), fence_holds, tables, posts)
        self.assertEqual(told, {True, False})

    def test_with_one_in(self):
        told = set()
        for tables in lists_with_fence(329, 1):
            least = least_fence(tables)
            for extra in all_mark_tables(len(tables[0]))[::1 if len(tables[0]) < 3 else 19]:
                if extra not in least:
                    thing = tuple(sorted(least + (extra,)))
                    told.add(is_fence(tables, thing))
                    self.tells(is_fence(tables, thing), fence_holds, tables, thing)
        self.assertEqual(told, {True, False})

    def test_all_sets_of_small_tables(self):
        tables = all_mark_tables(1)
        for lists in ([tables[0]], [tables[1]], tables, tables[::-1]):
            for posts in ((), (tables[0],), (tables[1],), tuple(tables)):
                self.tells(is_fence(lists, posts), fence_holds, lists, posts)
        some = [((0, 0), (0, 0)), ((0, 0), (0, 1)), ((0, 1), (1, 0)), ((1, 0), (0, 0)), ((1, 0), (0, 1))]
        for many in range(len(some) + 1):
            for posts in itertools.combinations(some, many):
                for lists in ([some[0]], [some[1]], [some[1], some[3]], [SWAP], [UNIT, some[3]], EVEN):
                    self.tells(is_fence(lists, posts), fence_holds, lists, posts)

    def test_all_that_have_a_nought(self):
        for size in (1, 2, 3):
            posts = tuple([table for table in all_mark_tables(size) if not is_full(table)])
            for table in all_mark_tables(size)[::1 if size < 3 else 61]:
                self.tells(is_fence([table], posts), fence_holds, [table], posts)
            every = tuple(all_mark_tables(size))
            for table in (every[0], every[-1]):
                self.tells(False, fence_holds, [table], every)

    def test_with_a_full_one(self):
        for tables in lists_with_fence(330, 1):
            self.tells(False, fence_holds, tables, least_fence(tables) + (square(len(tables[0]), 1),))
        for tables in ([FIBONACCI], [square(2, 1)], [square(3, 5), square(3, 0)], LATE_ALL):
            posts = tuple(sorted(closed(tables, {marks_wanted(table) for table in tables})))
            self.tells(False, fence_holds, tables, posts)
            self.tells(False, fence_holds, tables, tuple([post for post in posts if not is_full(post)]))

    def test_turned_about_and_otherwise_ordered(self):
        for tables in lists_with_fence(331, 1):
            least = least_fence(tables)
            if len(least) > 1:
                self.tells(False, fence_holds, tables, least[::-1])
                self.tells(False, fence_holds, tables, least[1:] + least[:1])
                self.tells(False, fence_holds, tables, least[:-2] + least[:-3:-1])
            self.tells(False, fence_holds, tables, least + least[-1:])
            self.tells(False, fence_holds, tables, least[:1] + least)
            self.tells(False, fence_holds, tables, least * 2)

    def test_not_of_0_and_1_alone(self):
        for tables in lists_with_fence(332, 1)[::3]:
            least = least_fence(tables)
            for at, post in enumerate(least):
                for number in (2, 7, 10 ** 30, -1, True, None, "1", (1,), [1]):
                    row = tuple([number if each == 1 else each for each in post[0]])
                    if row != post[0] or number is True:
                        bent = least[:at] + ((row,) + post[1:],) + least[at + 1:]
                        if not alike(bent, least):
                            self.tells(False, fence_holds, tables, bent)
        # A greater number beside the marks: it rises, and each product's marks are among them.
        self.tells(True, fence_holds, [((0,),)], (((0,),),))
        self.tells(False, fence_holds, [((0, 0), (0, 0))], (((0, 0), (0, 0)), ((0, 0), (0, 2))))
        self.tells(True, fence_holds, [((0, 0), (0, 0))], (((0, 0), (0, 0)), ((0, 0), (0, 1))))
        self.tells(False, fence_holds, [((2, 0), (0, 2))], (((1, 0), (0, 1)), ((2, 0), (0, 2))))
        self.tells(False, fence_holds, [((2, 0), (0, 2))], (((2, 0), (0, 2)),))

    def test_truths_though_fences_like_them_were_asked(self):
        self.tells(True, fence_holds, [UNIT], (((1, 0), (0, 1)),))
        for one, nought in ((True, 0), (1, False), (True, False)):
            self.tells(False, fence_holds, [UNIT], (((one, nought), (nought, one)),))

    def test_of_another_size(self):
        empty = {size: square(size, 0) for size in range(1, 7)}
        for size in (1, 2, 3):
            self.tells(True, fence_holds, [empty[size]], (empty[size],))
            for other in range(1, 7):
                if other != size:
                    self.tells(False, fence_holds, [empty[size]], (empty[other],))
                    both = tuple(sorted([empty[size], empty[other]]))
                    self.tells(False, fence_holds, [empty[size]], both)

    def test_of_another_form(self):
        for tables in lists_with_fence(333, 1)[::5]:
            least = least_fence(tables)
            for thing in (
                list(least), tuple(map(list, least)), (least,), [least], dict.fromkeys(least), least + (None,),
                (None,) + least, least + ((),), ((),) + least, least + (0,), least + ("~",), least[0],
                least[:-1] + (list(least[-1]),), least[:-1] + (tuple(map(list, least[-1])),), str(least),
                least + ({},), least + ([],), {0: least}, None, True,
            ):
                self.tells(False, fence_holds, tables, thing)

    def test_odd_things(self):
        for tables in ([SWAP], [((0,),)], [((0,),), ((1,),)], LATE_ALL):
            for thing in odd_things():
                self.tells(False, fence_holds, tables, thing)
                self.tells(False, fence_holds, tables, (thing,))
                self.tells(False, fence_holds, tables, (thing, thing))

    def test_no_tables_ahead_of_all_else(self):
        for tables, at in wrong_tables():
            for thing in ((((0,),),), None, ()):
                self.bears(NoTables, {"at": at}, fence_holds, tables, thing)

    def test_tables_are_told_of_as_they_are_when_asked(self):
        tables = [UNIT]
        fence = (((1, 0), (0, 1)),)
        self.tells(True, fence_holds, tables, fence)
        tables.append(SWAP)
        self.tells(False, fence_holds, tables, fence)
        tables.pop()
        self.tells(True, fence_holds, tables, fence)

    def test_by_name(self):
        self.tells(True, fence_holds, tables=[UNIT], thing=(((1, 0), (0, 1)),))
        self.tells(False, fence_holds, thing=(), tables=[UNIT])
        self.tells(False, fence_holds, [UNIT], thing=None)


class FenceOf(Case):
    def test_written_out(self):
        self.tells((((0, 1), (1, 0)), ((1, 0), (0, 1))), fence_of, [SWAP])
        self.tells((((0,),),), fence_of, [((0,),)])
        self.tells((((1, 0), (1, 1)),), fence_of, [LOWER])
        self.tells((((1, 0), (0, 1)), ((1, 0), (1, 1))), fence_of, [LOWER, UNIT])
        self.tells(None, fence_of, [FIBONACCI])
        self.tells(None, fence_of, [((4,),)])

    def test_against_the_least_fence_made_apart(self):
        told = set()
        for tables in several_tables(334, 3):
            self.tells(least_fence(tables), fence_of, tables)
            told.add(least_fence(tables) is None)
        self.assertEqual(told, {True, False})

    def test_none_just_where_there_is_a_full_way(self):
        for tables in several_tables(335, 2):
            fence = fence_of(tables)
            self.assertEqual(fence is None, full_way(tables) is not None)
            if fence is not None:
                self.tells(True, fence_holds, tables, fence)
                for long in (1, 2, 3):
                    for way in itertools.product(range(len(tables)), repeat=long):
                        self.assertIn(product_wanted(tables, way), fence)

    def test_many_products(self):
        tables = [round_table(3), table_of(3, {(0, 1), (1, 0), (2, 2)}), table_of(3, {(0, 0), (1, 1)})]
        fence = self.ask(fence_of, tables)
        self.assertEqual(len(fence), 34)
        self.tells(least_fence(tables), fence_of, tables)

    def test_no_tables(self):
        for thing, at in wrong_tables():
            self.bears(NoTables, {"at": at}, fence_of, thing)

    def test_tables_are_told_of_as_they_are_when_asked(self):
        tables = [UNIT]
        self.tells((((1, 0), (0, 1)),), fence_of, tables)
        tables.append(SWAP)
        self.tells((((0, 1), (1, 0)), ((1, 0), (0, 1))), fence_of, tables)
        tables.append(square(2, 1))
        self.tells(None, fence_of, tables)

    def test_by_name(self):
        self.tells((((0,),),), fence_of, tables=[((0,),)])


if __name__ == "__main__":
    unittest.main()
