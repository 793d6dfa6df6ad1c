import itertools
import unittest

from firstpowers.errors import NoTables, NoWay
from firstpowers.firsts import first_power
from firstpowers.many import all_full_from, along, full_way
from firstpowers.powers import power
from firstpowers.tables import marks
from tests.support import (
    LATE_ALL, LATE_FULL, MANY_PRODUCTS, Case, Numbers, all_mark_tables, first_wanted, in_tuples, is_full, marks_wanted,
    product_wanted, products_by_length, round_table, several_tables, slow_table, square, times, whatever, wrong_tables,
)

FIBONACCI = ((0, 5), (6, 7))
SWAP = ((0, 2), (3, 0))
LOWER = ((1, 0), (4, 1))


def ways_of(many, long):
    return itertools.product(range(many), repeat=long)


def full_way_is_none(tables):
    return not any(is_full(each) for products in products_by_length(tables) for each in products)


def all_full_wanted(tables):
    """The least length whose products are all full, None where none is among all sets of products."""
    for long, products in enumerate(products_by_length(tables), start=1):
        if all(is_full(each) for each in products):
            return long
    return None


def no_ways(many):
    """Things that are no ways in a list of so many tables."""
    near = [
        (), [], [0], [0, 0], (many,), (0, many), (many, 0), (-1,), (0, -1), (0,) * 61, (0,) * 62, (0,) * 600,
        (0,) * 59 + (many,), (0,) * 59 + (-1,), (True,), (False,), (0, False), (False, 0), (None,), ("0",), "0", "00",
        ((0,),), ([0],), {0: 0}, (10 ** 30,), [(0,)], (0, None), 0, None, True,
    ]
    return near + whatever() + in_tuples()


class Along(Case):
    def test_written_out(self):
        self.tells(((0, 1), (1, 1)), along, [FIBONACCI], (0,))
        self.tells(((1, 1), (1, 1)), along, [FIBONACCI], (0, 0))
        self.tells(((0, 1), (1, 0)), along, [FIBONACCI, SWAP], (1,))
        self.tells(((1, 0), (1, 1)), along, [FIBONACCI, SWAP], (0, 1))
        self.tells(((1, 1), (0, 1)), along, [FIBONACCI, SWAP], (1, 0))
        self.tells(((0, 0), (0, 0)), along, [FIBONACCI, square(2, 0)], (0, 0, 1, 0))
        self.tells(((1,),), along, [((9,),), ((4,),), ((0,),)], (0, 1, 1, 0))

    def test_short_ways_against_products_multiplied_one_by_one(self):
        for tables in several_tables(301, 2):
            for long in (1, 2, 3):
                for way in ways_of(len(tables), long):
                    self.tells(product_wanted(tables, way), along, tables, way)

    def test_long_ways(self):
        numbers = Numbers(302)
        for tables in several_tables(303, 1)[::5]:
            for long in (1, 7, 40, 59, 60):
                way = tuple([numbers.below(len(tables)) for at in range(long)])
                self.tells(product_wanted(tables, way), along, tables, way)

    def test_one_table_again_and_again(self):
        for table in [FIBONACCI, SWAP, LOWER, slow_table(3), round_table(3)]:
            for k in range(1, 61):
                self.tells(marks(power(table, k)), along, [table], (0,) * k)

    def test_no_way(self):
        for tables in ([FIBONACCI], [((0,),), ((1,),)], [SWAP, LOWER, FIBONACCI], LATE_ALL):
            for thing in no_ways(len(tables)):
                self.refuses(NoWay, along, tables, thing)

    def test_places_in_the_list_not_in_the_table(self):
        self.refuses(NoWay, along, [square(3, 1)], (2,))
        self.refuses(NoWay, along, [square(3, 1), square(3, 0)], (2,))
        self.tells(((1,),), along, [((0,),), ((0,),), ((5,),)], (2,))

    def test_truths_though_ways_like_them_were_asked(self):
        self.tells(marks_wanted(SWAP), along, [FIBONACCI, SWAP], (1,))
        self.refuses(NoWay, along, [FIBONACCI, SWAP], (True,))

    def test_no_tables_ahead_of_all_else(self):
        for thing, at in wrong_tables():
            for way in ((0,), (), None, (3,)):
                self.bears(NoTables, {"at": at}, along, thing, way)

    def test_tables_are_told_of_as_they_are_when_asked(self):
        tables = [FIBONACCI, SWAP]
        self.tells(marks_wanted(FIBONACCI), along, tables, (0,))
        tables.reverse()
        self.tells(marks_wanted(SWAP), along, tables, (0,))
        self.refuses(NoWay, along, tables, (2,))
        tables.append(LOWER)
        self.tells(marks_wanted(LOWER), along, tables, (2,))
        tables[2] = None
        self.bears(NoTables, {"at": 2}, along, tables, (0,))

    def test_by_name(self):
        self.tells(((1, 0), (1, 1)), along, tables=[FIBONACCI, SWAP], way=(0, 1))
        self.tells(((1, 0), (1, 1)), along, way=(0, 1), tables=[FIBONACCI, SWAP])
        self.tells(((1, 0), (1, 1)), along, [FIBONACCI, SWAP], way=(0, 1))


class FullWay(Case):
    def test_written_out(self):
        self.tells((0, 0), full_way, [FIBONACCI])
        self.tells((1,), full_way, [FIBONACCI, square(2, 1)])
        self.tells(None, full_way, [SWAP])
        self.tells(None, full_way, [((0,),)])
        self.tells((0,), full_way, [((8,),)])
        self.tells(None, full_way, [SWAP, square(2, 0)])
        self.tells((0, 1, 0), full_way, [LOWER, SWAP])
        self.tells((1, 0, 1), full_way, [SWAP, LOWER])

    def test_the_shortest_one_comes_ahead_of_the_least_one(self):
        # Along 0, 0, 0, 0, 0 the product is full too, but three places are fewer.
        tables = [slow_table(3), ((1, 1, 1), (1, 0, 0), (0, 1, 1))]
        self.assertTrue(is_full(product_wanted(tables, (0,) * 5)))
        way = self.ask(full_way, tables)
        self.assertLess(len(way), 5)
        self.assertEqual(way, next(each for each in ways_of(2, len(way)) if is_full(product_wanted(tables, each))))

    def test_length_by_length_against_all_ways(self):
        told = set()
        for tables in several_tables(304, 2):
            way = self.ask(full_way, tables)
            told.add(None if way is None else len(way))
            for long in range(1, 6):
                full_ones = [each for each in ways_of(len(tables), long) if is_full(product_wanted(tables, each))]
                if full_ones:
                    self.tells(full_ones[0], full_way, tables)
                    break
                self.assertTrue(way is None or len(way) > long)
        self.assertLessEqual({None, 1, 2, 3, 4, 5}, told)

    def test_long_ones_against_all_products_of_each_length(self):
        # That none less is full is shown place by place: with a less place there, no rest makes the product full.
        for tables in several_tables(305, 2) + [LATE_FULL, LATE_FULL[1:] + LATE_FULL[:1], MANY_PRODUCTS]:
            way = self.ask(full_way, tables)
            if way is not None:
                self.assertTrue(is_full(product_wanted(tables, way)))
                products = products_by_length(tables)
                self.assertFalse(any(is_full(each) for some in products[:len(way) - 1] for each in some))
                for at, place in enumerate(way):
                    rests = products[len(way) - at - 2] if at < len(way) - 1 else [None]
                    for less in range(place):
                        ahead = product_wanted(tables, way[:at] + (less,))
                        for rest in rests:
                            self.assertFalse(is_full(ahead if rest is None else times(ahead, rest)))

    def test_the_longest_one(self):
        self.tells((2, 1, 1, 2, 1, 1, 0, 1, 1, 0), full_way, LATE_FULL)

    def test_none_where_there_is_none(self):
        some = 0
        for tables in several_tables(306, 2):
            self.assertEqual(full_way(tables) is None, full_way_is_none(tables))
            some += full_way(tables) is None
        self.assertGreater(some, 50)

    def test_of_one_table_alone(self):
        for size in (1, 2, 3):
            for table in all_mark_tables(size):
                first = first_wanted(table)
                self.tells(None if first is None else (0,) * first, full_way, [table])

    def test_the_same_table_twice(self):
        self.tells((0, 0), full_way, [FIBONACCI, FIBONACCI, FIBONACCI])
        self.tells((0, 0), full_way, [FIBONACCI, marks(FIBONACCI)])

    def test_what_was_told_is_a_way(self):
        for tables in several_tables(307, 1):
            way = full_way(tables)
            if way is not None:
                self.tells(square(len(tables[0]), 1), along, tables, way)

    def test_no_tables(self):
        for thing, at in wrong_tables():
            self.bears(NoTables, {"at": at}, full_way, thing)

    def test_tables_are_told_of_as_they_are_when_asked(self):
        tables = [SWAP]
        self.tells(None, full_way, tables)
        tables.append(FIBONACCI)
        self.tells((1, 1), full_way, tables)
        tables.reverse()
        self.tells((0, 0), full_way, tables)
        tables.clear()
        self.bears(NoTables, {"at": -1}, full_way, tables)

    def test_by_name(self):
        self.tells((0, 0), full_way, tables=[FIBONACCI])


class AllFullFrom(Case):
    def test_written_out(self):
        self.tells(2, all_full_from, [FIBONACCI])
        self.tells(1, all_full_from, [square(2, 3)])
        self.tells(1, all_full_from, [square(3, 3), square(3, 1), square(3, 10 ** 30)])
        self.tells(2, all_full_from, [square(2, 3), FIBONACCI])
        self.tells(None, all_full_from, [square(2, 3), SWAP])
        self.tells(None, all_full_from, [square(2, 3), ((1, 0), (1, 0))])
        self.tells(None, all_full_from, [square(2, 3), ((1, 1), (0, 0))])
        self.tells(None, all_full_from, [((0,),)])
        self.tells(1, all_full_from, [((1,),), ((2,),)])
        self.tells(6, all_full_from, LATE_ALL)

    def test_though_each_alone_has_a_first_power(self):
        # Taken by turns the two of them never come to a full product.
        tables = [((0, 1), (1, 1)), ((1, 1), (1, 0))]
        self.assertEqual([first_wanted(table) for table in tables], [2, 2])
        self.tells(None, all_full_from, tables)

    def test_length_by_length_against_all_ways(self):
        told = set()
        for tables in several_tables(308, 2) + [[a, b] for a in (FIBONACCI, SWAP) for b in all_mark_tables(2)]:
            k = self.ask(all_full_from, tables)
            told.add(k)
            for long in range(1, 7 if len(tables) < 3 else 6):
                every = all(is_full(product_wanted(tables, way)) for way in ways_of(len(tables), long))
                self.assertEqual(every, k is not None and long >= k)
        self.assertLessEqual({None, 1, 2, 3, 4}, told)

    def test_against_all_products_of_each_length(self):
        numbers = Numbers(309)
        lists = several_tables(310, 3)
        lists += [[numbers.table(3, 1) for at in range(many)] for many in (1, 2, 3) for more in range(40)]
        for tables in lists:
            self.tells(all_full_wanted(tables), all_full_from, tables)

    def test_of_one_table_alone(self):
        for size in (1, 2, 3):
            for table in all_mark_tables(size):
                self.tells(first_wanted(table), all_full_from, [table])
                self.assertEqual(first_power(table), all_full_from([table]))

    def test_no_tables(self):
        for thing, at in wrong_tables():
            self.bears(NoTables, {"at": at}, all_full_from, thing)

    def test_tables_are_told_of_as_they_are_when_asked(self):
        tables = [FIBONACCI, square(2, 1)]
        self.tells(2, all_full_from, tables)
        tables[0] = SWAP
        self.tells(None, all_full_from, tables)
        tables.pop(0)
        self.tells(1, all_full_from, tables)

    def test_by_name(self):
        self.tells(2, all_full_from, tables=[FIBONACCI])


if __name__ == "__main__":
    unittest.main()
