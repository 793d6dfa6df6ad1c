"""What the tests have in common: strict asking, things that are none, and tables to try."""

import copy
import itertools
import signal
import unittest

SECONDS_A_TEST = 300


def alike(one, other):
    """Whether two things are the same in kind, too: True is no 1, a list no tuple."""
    if type(one) is not type(other):
        return False
    if isinstance(one, (list, tuple)):
        return len(one) == len(other) and all(map(alike, one, other))
    if isinstance(one, dict):
        return alike(list(one.items()), list(other.items()))
    return one == other


def too_long(signum, frame):
    raise AssertionError("the answer takes too long")


class Case(unittest.TestCase):
    """A test that asks strictly, and in which an answer that never comes is a failure."""

    def setUp(self):
        signal.signal(signal.SIGALRM, too_long)
        signal.alarm(SECONDS_A_TEST)

    def tearDown(self):
        signal.alarm(0)

    def ask(self, deed, *things, **named):
        held = copy.deepcopy((things, named))
        try:
            return deed(*things, **named)
        finally:
            if not alike(held, (things, named)):
                self.fail(f"{deed.__name__} changed what was handed in")

    def tells(self, wanted, deed, *things, **named):
        """The answer is as wanted, and so again."""
        for again in range(2):
            answer = self.ask(deed, *things, **named)
            if not alike(wanted, answer):
                self.fail(f"{deed.__name__}{things}{named or ''}: {answer!r}, not {wanted!r}")

    def refuses(self, kind, deed, *things, **named):
        """The refusal is of this very class, and so again."""
        for again in range(2):
            try:
                answer = self.ask(deed, *things, **named)
            except ValueError as refusal:
                if type(refusal) is not kind:
                    self.fail(f"{deed.__name__}{things}{named or ''}: {type(refusal)}, not {kind}")
            else:
                self.fail(f"{deed.__name__}{things}{named or ''}: {answer!r}, not {kind}")

    def bears(self, kind, fields, deed, *things, **named):
        """The refusal is of this very class and has just these fields, and so again."""
        self.refuses(kind, deed, *things, **named)
        try:
            self.ask(deed, *things, **named)
        except kind as refusal:
            if not alike(fields, vars(refusal)):
                self.fail(f"{deed.__name__}{things}{named or ''}: {vars(refusal)}, not {fields}")


def deep(bottom, many, wrap):
    for at in range(many):
        bottom = wrap(bottom)
    return bottom


def whatever():
    """Things of every kind that may be handed in, none of them a table."""
    return [
        None, True, False, 0, 1, -1, 2, 7, 10 ** 31 - 1, 1 - 10 ** 31,
        "", " ", "0", "1", "~", "table", "0 1/1 1",
        [], {}, [0], [None], {0: 0}, {"0": [1]}, {(0,): (0,)},
        ["0"], [()], [[]], [[0]], [(0,)], [((0,),)], {0: (0,)}, {0: {0: 0}},
        deep(0, 10, lambda thing: (thing,)), deep(0, 10, lambda thing: [thing]),
        deep(0, 10, lambda thing: {"a": thing}), deep(None, 9, lambda thing: (thing, [thing])),
    ]


def in_tuples():
    """Tuples that are no tables, no walks, no sets and no orders, whatever the table."""
    return [
        (None,), (True,), (False,), ("",), ("0",), ([],), ([0],), ({},), ((),), (0, None),
        (0, "1"), (0, [1]), (0, True), (False, True), (True, False), (0, {}), (0, (1,)),
        (10 ** 30,), (0, 10 ** 30), (-1,), (0, -1), (0, 1, -1), (7, 8), ((0, 1),),
    ]


def no_tables():
    """Things that are no tables, of whatever kind."""
    near = [
        (), ((),), ((), ()), (0,), (0, 0), ((0,), 0), (0, (0,)), ((0,), (0,)), ((0, 1),), ((0, 1, 2),),
        ((0, 1), (1,)), ((0,), (1, 0)), ((0, 1), (1, 0, 0)), ((0, 1), (1, 0), (0, 1)), ((0, 1, 0), (1, 0, 1)),
        [[0, 1], [1, 1]], [(0, 1), (1, 1)], ([0, 1], [1, 1]), ((0, 1), [1, 1]), ([0, 1], (1, 1)), ([1],), [(1,)],
        ((True,),), ((False,),), ((1, True), (1, 1)), ((1, 1), (1, False)), ((None,),), ((0, None), (1, 1)),
        (("0",),), (("0", "1"), ("1", "1")), ("0",), ("01", "11"), ((0, "1"), (1, 1)), (("",),),
        ((-1,),), ((0, 1), (1, -1)), ((-1, 1), (1, 1)), ((-10 ** 30,),), ((1, 1), (-2, 1)),
        (((0,),),), (((),),), ((0, (1,)), (1, 1)), (([],),), (({},),), ((0, {}), (1, 1)), ({0: 0},),
        ({0: 0, 1: 1}, {0: 0, 1: 1}), {0: (0,)}, {0: (0, 1), 1: (1, 1)}, ((0, 1), None), (None, (0, 1)), ((0, 1), True),
    ]
    sizes = [square(size, 1) for size in (7, 8, 40)] + [
        tuple([(1,) * 7] * 6), tuple([(1,) * 6] * 7), tuple([(1,) * 5] * 6), tuple([(1,) * 6] * 5),
        tuple([(1,) * 6] * 5 + [(1,) * 5]), tuple([(1,) * 6] * 5 + [(1,) * 7]), tuple([(1,) * 6] * 5 + [[1] * 6]),
        tuple([(1,) * 6] * 5 + [(1,) * 5 + (True,)]), tuple([(1,) * 6] * 5 + [(1,) * 5 + (-1,)]),
    ]
    return whatever() + near + sizes


def no_places(size):
    """Things that are no places of a table of this size."""
    bounds = [size, size + 1, -1, -size, 10 ** 30, -10 ** 30]
    return bounds + [None, True, False, "", "0", "1", [], (), {}, [0], (0,), {0: 0}, ((0,),)]


def no_numbers(least, most):
    """Things that are no whole numbers from least to most."""
    bounds = [least - 1, least - 2, most + 1, most + 2, most + 10 ** 30, -10 ** 30]
    return bounds + [None, True, False, "", "0", "1", [], (), {}, [1], (1,), {1: 1}, ((1,),)]


def no_sets(size):
    """Things that are no rising tuples of places of a table of this size."""
    every = tuple(range(size))
    bounds = [(size,), (0, size), every + (size,), (-1,) + every, (-size,), (10 ** 30,)]
    twice = [(0, 0), every + (size - 1,), (0,) + every, every * 2]
    falling = [every[::-1], every[1:] + every[:1]] if size > 1 else []
    return whatever() + in_tuples() + bounds + twice + falling + [list(every), [every], (every,)]


def no_orders(size):
    """Things that are no tuples of all places of a table of this size, each once."""
    every = tuple(range(size))
    lacking = [(), every[1:], every[:-1]]
    twice = [every + (0,), every + every, every[:-1] + (0, 0), (0,) * (size + 1)]
    beyond = [every[1:] + (size,), every[:-1] + (size,), every[:-1] + (-1,), every + (size,), (-1,) + every[1:]]
    if size > 1:
        twice += [every[:-1] + (0,), (size - 1,) + every[1:], (0,) * size]
    kinds = [list(every), list(every[::-1]), {each: each for each in every}, (every,), "".join(map(str, every))]
    truths = [(False,) + every[1:], (False, True) + every[2:], every[:1] + (True,) + every[2:]]
    return whatever() + in_tuples() + lacking + twice + beyond + kinds + truths


def square(size, number):
    return ((number,) * size,) * size


def all_mark_tables(size):
    """All tables of 0 and 1 alone of a size."""
    rows = list(itertools.product((0, 1), repeat=size))
    return list(itertools.product(rows, repeat=size))


class Numbers:
    """Numbers that look drawn, but are the same in each run."""

    def __init__(self, seed):
        self.state = seed

    def below(self, many):
        self.state = (self.state * 6364136223846793005 + 1442695040888963407) % 2 ** 64
        return (self.state >> 33) % many

    def mixed(self, things):
        """The same things in another order."""
        left = list(things)
        return [left.pop(self.below(len(left))) for thing in things]

    def table(self, size, noughts=2, most=9):
        """A table of a size, noughts of five numbers being 0."""
        return tuple([
            tuple([0 if self.below(5) < noughts else 1 + self.below(most) for place in range(size)])
            for row in range(size)
        ])

    def tables(self, many):
        """So many tables of each size from 1 to 6, some with few noughts, some with many."""
        return [self.table(size, noughts) for size in range(1, 7) for at in range(many) for noughts in (1, 2, 3, 4)]


def sets_of(size):
    """All rising tuples of places."""
    return [some for many in range(size + 1) for some in itertools.combinations(range(size), many)]


def table_of(size, arrows):
    """The table of 0 and 1 with these arrows, pairs of places."""
    return tuple([tuple([int((i, j) in arrows) for j in range(size)]) for i in range(size)])


def times(one, other):
    """The marks of the product of two tables of one size."""
    size = range(len(one))
    return tuple([tuple([int(any(one[i][k] and other[k][j] for k in size)) for j in size]) for i in size])


def scarce_tables(seed, again):
    """Tables of four to six places with few arrows, so that there are many pieces."""
    numbers = Numbers(seed)
    return [
        table_of(size, {(numbers.below(size), numbers.below(size)) for at in range(arrows)})
        for size in (4, 5, 6) for arrows in range(1, 9) for at in range(again)
    ]


def turning_table(numbers, size, d, noughts):
    """A table whose arrows all go on by one of d rests, and the rests; noughts of five arrows are lacking."""
    rests = [numbers.below(d) for place in range(size)]
    if numbers.below(3) > 0:
        # Each rest that there can be a place for has one, so that most of these tables are joined.
        rests = numbers.mixed([place % d for place in range(size)])
    table = tuple([
        tuple([
            1 + numbers.below(9) if (rests[i] + 1 - rests[j]) % d == 0 and numbers.below(5) >= noughts else 0
            for j in range(size)
        ])
        for i in range(size)
    ])
    return table, tuple(rests)


def turning_tables(seed, again):
    """Tables of one to six places that have turns of each d from 1 to 6."""
    numbers = Numbers(seed)
    return [
        turning_table(numbers, size, d, noughts)[0]
        for size in range(1, 7) for d in range(1, 7) for noughts in (0, 1, 2) for at in range(again)
    ]


def round_table(size):
    """The table in which an arrow goes from each place to the next one, and from the last one to 0."""
    return table_of(size, {(place, (place + 1) % size) for place in range(size)})


def slow_table(size):
    """The table of a size whose first power comes last: a round, and an arrow more from the last place to 1."""
    return table_of(size, {(place, place + 1) for place in range(size - 1)} | {(size - 1, 0), (size - 1, 1)})


def shuffled(numbers, table):
    """The table with its places named otherwise."""
    names = numbers.mixed(range(len(table)))
    return tuple([tuple([table[i][j] for j in names]) for i in names])


def tables_of_all_sorts(seed, again):
    """All tables of marks with up to three places, and of each size full ones, scarce ones, slow and turning ones."""
    numbers = Numbers(seed)
    told = [table for size in (1, 2, 3) for table in all_mark_tables(size)]
    told += numbers.tables(again) + scarce_tables(seed + 1, again) + turning_tables(seed + 2, again)
    for size in range(1, 7):
        told += [square(size, 0), square(size, 3), round_table(size)]
        if size > 1:
            told += [slow_table(size), shuffled(numbers, slow_table(size))]
    return told


def come_to(table, place):
    """All places that walks from a place lead to, gone one by one."""
    told = [place]
    for each in told:
        told += [head for head in range(len(table)) if table[each][head] and head not in told]
    return set(told)


def is_joined(table):
    return all(len(come_to(table, place)) == len(table) for place in range(len(table)))


def marks_wanted(table):
    return tuple([tuple([int(number > 0) for number in row]) for row in table])


def is_full(table):
    return all(all(row) for row in table)


def first_wanted(table):
    """The first power without a nought, by products one by one until one comes again; None where there is none."""
    seen = []
    now = marks_wanted(table)
    while now not in seen:
        seen.append(now)
        if is_full(now):
            return len(seen)
        now = times(now, table)
    return None


def with_first(tables):
    """Those of the tables that have a first power."""
    return [table for table in tables if first_wanted(table) is not None]


def without_first(tables):
    """Those of the tables that have no first power."""
    return [table for table in tables if first_wanted(table) is None]


def marks_one_by_one(table, many):
    """The marks of the powers from 1 on, multiplied one by one."""
    told = [marks_wanted(table)]
    while len(told) < many:
        told.append(times(told[-1], table))
    return told


def marks_until_again(table):
    """The marks of the powers from 1 on, multiplied one by one until some come again."""
    told = [marks_wanted(table)]
    while times(told[-1], table) not in told:
        told.append(times(told[-1], table))
    return told


def renamed_wanted(table, order):
    """The table whose number at order[i] and order[j] is the table's at i and j."""
    places = {(order[i], order[j]): number for i, row in enumerate(table) for j, number in enumerate(row)}
    size = range(len(table))
    return tuple([tuple([places[i, j] for j in size]) for i in size])


def table_of_bits(bits, size=3):
    """The table of 0 and 1 that a number writes by its bits, row after row."""
    signs = bin(bits)[2:].zfill(size * size)
    return tuple([tuple(map(int, signs[at:at + size])) for at in range(0, size * size, size)])


# The longest of the shortest full ways, the longest ways with a nought, and the most products, of all lists.
LATE_FULL = [table_of_bits(bits) for bits in (21, 140, 276)]
LATE_ALL = [table_of_bits(bits) for bits in (79, 99, 413)]
MANY_PRODUCTS = [table_of_bits(bits) for bits in (10, 85, 98)]


def several_tables(seed, again):
    """Lists of one to three tables of one size from 1 to 3, of all sorts."""
    numbers = Numbers(seed)
    told = [[table] for size in (1, 2, 3) for table in all_mark_tables(size)[::1 if size < 3 else 5]]
    told += [list(pair) for pair in itertools.product(all_mark_tables(1), repeat=2)]
    told += [list(pair) for pair in itertools.product(all_mark_tables(2), repeat=2)][::3]
    told += [[numbers.table(size, noughts) for at in range(many)]
             for size in (1, 2, 3) for noughts in (0, 1, 2, 3, 4) for many in (2, 3) for more in range(again)]
    # Orders of the places, and one table more: many products, and long ways.
    for order in itertools.permutations(range(3)):
        turning = table_of(3, set(enumerate(order)))
        told += [[turning, numbers.table(3, noughts)] for noughts in (2, 3, 4)]
    return told + [list(LATE_FULL), list(LATE_ALL), list(MANY_PRODUCTS), LATE_FULL[::-1], LATE_ALL[1:]]


def product_wanted(tables, way):
    """The marks of the product along a way, the numbers themselves multiplied one by one."""
    size = range(len(tables[0]))
    now = tables[way[0]]
    for at in way[1:]:
        other = tables[at]
        now = tuple([tuple([sum([now[i][k] * other[k][j] for k in size]) for j in size]) for i in size])
    return marks_wanted(now)


def products_by_length(tables):
    """For each length from 1 on the set of the marks of all products of so many places, until a set comes again."""
    marked = [marks_wanted(table) for table in tables]
    told = [frozenset(marked)]
    while True:
        later = frozenset([times(each, table) for each in told[-1] for table in marked])
        if later in told:
            return told
        told.append(later)


def wrong_tables():
    """Things that are no list of one to three tables of one size from 1 to 3, and the place that is told of each."""
    one, two, three = ((1,),), ((0, 1), (1, 1)), square(3, 1)
    told = [(thing, -1) for thing in no_tables() if not isinstance(thing, list)]
    told += [(thing, -1) for thing in (
        [], (), (two,), (two, two), (two, two, two), two, three, {0: two}, [two] * 4, [two] * 5, [None] * 4, [0] * 7,
        [one, two, three, two], (None,), "", "0 1/1 1", True, [[]] * 4,
    )]
    great = [square(size, number) for size in (4, 5, 6) for number in (0, 1)]
    for thing in no_tables() + great:
        told += [([thing], 0), ([two, thing], 1), ([two, two, thing], 2), ([two, thing, two], 1), ([thing, two], 0)]
    for first, other in itertools.permutations((one, two, three), 2):
        told += [([first, other], 1), ([first, first, other], 2), ([first, other, other], 1), ([first, other, None], 1)]
    return told + [([None, None], 0), ([two, None, ()], 1), ([square(4, 1), square(4, 1)], 0), ([[two]], 0)]
