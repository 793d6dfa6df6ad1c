"""What the document says over the whole program, and the interface as it stands there."""

import importlib
import inspect
import itertools
import unittest

from firstpowers.calendars import calendar_holds
from firstpowers.comings import all_marks, ever_full, marks_of, round_of, same_marks
from firstpowers.desk import Desk
from firstpowers.errors import NoTable, NoTables, PowerError
from firstpowers.firsts import first_holds, first_power, why_first
from firstpowers.kinds import by_first, least_alike, slowest_tables
from firstpowers.lasting import fence_holds, fence_of, lasting_holds, why_lasting
from firstpowers.many import all_full_from, along, full_way
from firstpowers.nevers import never_holds, why_never
from firstpowers.pieces import joined, ladder, part, pieces
from firstpowers.powers import power
from firstpowers.rounds import all_rounds, beat
from firstpowers.rows import first_pairs, first_row, meeting
from firstpowers.shuts import shut_sets
from firstpowers.slow import bound_for, slow_table
from firstpowers.tables import full, is_table, marks, renamed, turned
from firstpowers.texts import table_read, table_shown
from firstpowers.turns import turns_hold, turns_of
from tests.support import (
    Case, Numbers, alike, all_mark_tables, first_wanted, is_joined, no_tables, round_table, tables_of_all_sorts,
    whatever, with_first, wrong_tables,
)

# The functions of each module, with the names of their arguments in their order.
INTERFACE = {
    "tables": {"is_table": "thing", "full": "table", "marks": "table", "turned": "table", "renamed": "table order"},
    "powers": {"product": "one other", "power": "table k"},
    "walks": {
        "is_walk": "table thing", "worth_of": "table walk", "walks_many": "table one other k",
        "first_walk": "table one other k", "nth_walk": "table one other k number", "place_of_walk": "table walk",
    },
    "afters": {"set_after": "table some k"},
    "pieces": {"pieces": "table", "joined": "table", "ladder": "table", "part": "table some"},
    "shuts": {"is_shut": "table some", "shut_sets": "table", "closure": "table some"},
    "rounds": {"is_round": "table thing", "all_rounds": "table", "beat": "table"},
    "turns": {"turns_hold": "table thing", "turns_of": "table"},
    "firsts": {"first_power": "table", "first_holds": "table thing", "why_first": "table"},
    "nevers": {"never_holds": "table thing", "why_never": "table"},
    "comings": {
        "round_of": "table", "all_marks": "table", "marks_of": "table k", "same_marks": "table one other",
        "ever_full": "table",
    },
    "calendars": {"calendar_holds": "table thing"},
    "rows": {
        "first_row": "table place", "first_pair": "table one other", "first_pairs": "table", "meeting": "table",
    },
    "lengths": {"made_by": "lengths number", "last_unmade": "lengths", "counts_for": "lengths number"},
    "slow": {"slow_table": "size", "slowest_power": "size", "bound_for": "table"},
    "kinds": {"by_first": "size", "slowest_tables": "size", "least_alike": "table"},
    "many": {"along": "tables way", "full_way": "tables", "all_full_from": "tables"},
    "lasting": {
        "lasting_holds": "tables thing", "why_lasting": "tables", "fence_holds": "tables thing", "fence_of": "tables",
    },
    "texts": {"table_shown": "table", "table_read": "text"},
}
# Each function of one table, the table's size being however great, asked with its right arguments.
LISTS_TOLD = (pieces, ladder, shut_sets, all_rounds, all_marks)
OF_A_TABLE = LISTS_TOLD + (
    full, marks, turned, joined, first_power, why_first, why_never, round_of, ever_full, meeting, table_shown,
)
LOOKERS = (turns_hold, first_holds, never_holds, calendar_holds)


def functions():
    for module, names in INTERFACE.items():
        for name, arguments in names.items():
            yield getattr(importlib.import_module("firstpowers." + module), name), arguments.split(" ")


def right_things():
    """For each name of an argument something right for the table ((0, 1), (1, 1))."""
    return {
        "thing": None, "table": ((0, 1), (1, 1)), "order": (1, 0), "one": 1, "other": 1, "k": 2, "walk": (0, 1, 1),
        "number": 0, "some": (0, 1), "place": 1, "lengths": (2, 3), "size": 2, "tables": [((0, 1), (1, 1))],
        "way": (0, 0), "text": "0 1/1 1",
    }


def things_for(deed, names):
    told = right_things()
    if deed.__name__ == "product":
        told["one"] = told["other"] = told["table"]
    return [told[name] for name in names]


def many_tables(seed):
    return tables_of_all_sorts(seed, 2) + all_mark_tables(4)[::701]


def answer_of(deed, *things):
    """The answer, or the class of the refusal."""
    try:
        return deed(*things)
    except PowerError as refusal:
        return type(refusal)


class Interface(Case):
    def test_each_function_has_the_arguments_told(self):
        for deed, names in functions():
            self.assertEqual(list(inspect.signature(deed).parameters), names, deed)
        self.assertEqual(list(inspect.signature(Desk).parameters), [])
        self.assertEqual(list(inspect.signature(Desk().say).parameters), ["row"])

    def test_by_place_and_by_name(self):
        for deed, names in functions():
            things = things_for(deed, names)
            wanted = self.ask(deed, *things)
            for many in range(len(names) + 1):
                named = dict(zip(names[many:], things[many:]))
                self.tells(wanted, deed, *things[:many], **named)
                self.tells(wanted, deed, *things[:many], **dict(reversed(named.items())))

    def test_no_table_ahead_of_all_else(self):
        for deed, names in functions():
            if "table" in names or deed.__name__ == "product":
                for table in no_tables():
                    self.refuses(NoTable, deed, table, *things_for(deed, names)[1:])
                    self.refuses(NoTable, deed, table, *[None] * (len(names) - 1))
                    self.refuses(NoTable, deed, table, *[True] * (len(names) - 1))

    def test_no_tables_ahead_of_all_else(self):
        for deed, names in functions():
            if "tables" in names:
                for tables, at in wrong_tables():
                    self.bears(NoTables, {"at": at}, deed, tables, *[None] * (len(names) - 1))

    def test_lookers_tell_true_or_false_of_whatever_is_handed_in(self):
        for deed, names in functions():
            if "thing" in names:
                for thing in whatever():
                    self.assertIs(self.ask(deed, *things_for(deed, names)[:-1], thing), False)

    def test_refusals_stand_under_one_class(self):
        for deed, names in functions():
            if "thing" not in names[:1]:
                with self.assertRaises(PowerError):
                    deed(*[None] * len(names))


class FirstPowers(Case):
    def test_the_same_by_all_roads(self):
        some = 0
        for table in many_tables(401):
            first = first_wanted(table)
            self.tells(first, first_power, table)
            self.tells(first is not None, ever_full, table)
            self.assertEqual(Desk().say("first"), "none")
            desk = Desk()
            desk.say("table " + table_shown(table))
            self.assertEqual(desk.say("first"), "none" if first is None else str(first))
            if len(table) < 4:
                self.tells(first, all_full_from, [table])
                self.tells(None if first is None else (0,) * first, full_way, [table])
            if first is not None:
                some += 1
                self.tells((first, 1), round_of, table)
                self.assertEqual(max(map(max, first_pairs(table))), first)
                self.assertEqual(max([first_row(table, place) for place in range(len(table))]), first)
                self.assertEqual(max(map(int, desk.say("rows").split(" "))), first)
                self.assertEqual(why_first(table)[0], first)
                self.assertEqual(len(all_marks(table)), first)
                self.assertLessEqual(meeting(table), first)
                self.assertLessEqual(first, bound_for(table))
                self.assertTrue(full(power(table, first)))
                self.assertTrue(first == 1 or not full(power(table, first - 1)))
                self.assertTrue(full(marks_of(table, first)))
                self.assertTrue(same_marks(table, first, 10 ** 30))
        self.assertGreater(some, 200)

    def test_just_one_of_both_papers(self):
        for table in many_tables(402):
            yes, no = why_first(table), why_never(table)
            self.assertNotEqual(yes is None, no is None)
            self.assertEqual(yes is None, first_wanted(table) is None)
            self.assertIs(first_holds(table, yes), yes is not None)
            self.assertIs(never_holds(table, no), no is not None)
            self.assertIs(first_holds(table, no), False)
            self.assertIs(never_holds(table, yes), False)

    def test_papers_of_other_tables_do_not_show_what_is_not_so(self):
        tables = all_mark_tables(2) + all_mark_tables(3)[::5]
        papers = [(why_first(table), why_never(table)) for table in tables]
        for table in tables:
            first = first_power(table)
            for yes, no in papers:
                self.assertFalse(first_holds(table, yes) and yes[0] != first)
                self.assertFalse(never_holds(table, no) and first is not None)

    def test_of_several_tables_just_one_of_both(self):
        pairs = list(itertools.product(all_mark_tables(2), repeat=2))
        for tables in [list(pair) for pair in pairs] + [[table] for table in all_mark_tables(3)[::3]]:
            self.assertNotEqual(full_way(tables) is None, fence_of(tables) is None)
            self.assertNotEqual(all_full_from(tables) is None, why_lasting(tables) is None)
            self.assertIs(fence_holds(tables, fence_of(tables)), fence_of(tables) is not None)
            self.assertIs(lasting_holds(tables, why_lasting(tables)), why_lasting(tables) is not None)


class Alike(Case):
    def test_turned(self):
        for table in many_tables(403):
            other = turned(table)
            self.tells(table, turned, other)
            for deed in (first_power, ever_full, round_of, joined, pieces):
                self.tells(deed(table), deed, other)
            self.assertEqual([turned(each) for each in all_marks(table)], all_marks(other))
            self.tells(answer_of(beat, table), lambda each: answer_of(beat, each), other)
            if first_power(table) is not None:
                self.tells(turned(first_pairs(table)), first_pairs, other)
                self.tells(bound_for(table), bound_for, other)

    def test_renamed(self):
        numbers = Numbers(404)
        for table in many_tables(405):
            order = tuple(numbers.mixed(range(len(table))))
            other = renamed(table, order)
            for deed in (first_power, ever_full, round_of, joined, meeting, full):
                self.tells(deed(table), deed, other)
            self.assertEqual([renamed(each, order) for each in all_marks(table)], all_marks(other))
            self.assertEqual(sorted([tuple(sorted([order[at] for at in piece])) for piece in pieces(table)]),
                             pieces(other))
            self.assertEqual(sorted(map(len, all_rounds(table))), sorted(map(len, all_rounds(other))))
            if first_power(table) is not None:
                self.tells(renamed(first_pairs(table), order), first_pairs, other)
                self.assertEqual([first_row(table, at) for at in range(len(table))],
                                 [first_row(other, order[at]) for at in range(len(table))])
            if len(table) < 6:
                self.tells(least_alike(table), least_alike, other)

    def test_marked(self):
        for table in many_tables(406):
            other = marks(table)
            for deed in OF_A_TABLE:
                if deed not in (turned, table_shown):
                    self.tells(deed(table), deed, other)
            if first_power(table) is not None:
                self.tells(first_pairs(table), first_pairs, other)
                self.tells(bound_for(table), bound_for, other)
            if len(table) < 4:
                for deed in (full_way, all_full_from, why_lasting, fence_of):
                    self.tells(deed([table]), deed, [other])


class Told(Case):
    def test_a_list_told_changed_and_asked_again(self):
        for table in many_tables(407)[::5]:
            for deed in LISTS_TOLD:
                wanted = tuple(deed(table))
                for change in (list.clear, list.reverse, lambda told: told.append(None)):
                    told = deed(table)
                    self.assertIsInstance(told, list)
                    change(told)
                    self.assertTrue(alike(list(wanted), deed(table)))
        for deed in (by_first, slowest_tables):
            for size in (1, 2, 3):
                wanted = tuple(deed(size))
                deed(size).clear()
                self.assertTrue(alike(list(wanted), deed(size)))

    def test_within_lists_are_no_lists(self):
        for table in many_tables(408)[::5]:
            for deed in LISTS_TOLD:
                self.assertTrue(all(type(each) is tuple for each in deed(table)))

    def test_a_list_of_tables_stays_as_it_was(self):
        for tables in ([((0, 1), (1, 1))], [slow_table(3), round_table(3), marks(slow_table(3))]):
            held = list(tables)
            for deed in (full_way, all_full_from, why_lasting, fence_of):
                self.ask(deed, tables)
            self.ask(along, tables, (0, 0))
            self.ask(lasting_holds, tables, ((), (0,)))
            self.ask(fence_holds, tables, (tables[0],))
            self.assertTrue(alike(held, tables))

    def test_the_same_answer_whatever_was_asked_in_between(self):
        tables = many_tables(409)[::9]
        asked = [(deed, table) for table in tables for deed in OF_A_TABLE]
        wanted = [answer_of(deed, table) for deed, table in asked]
        for (deed, table), answer in reversed(list(zip(asked, wanted))):
            self.assertTrue(alike(answer, answer_of(deed, table)))
        for (deed, table), answer in zip(Numbers(410).mixed(asked), Numbers(410).mixed(wanted)):
            self.assertTrue(alike(answer, answer_of(deed, table)))

    def test_what_was_told_may_be_handed_in_again(self):
        for table in many_tables(411)[::3]:
            for each in all_marks(table) + [marks(table), turned(table), power(table, 3)]:
                self.assertTrue(is_table(each))
            self.assertTrue(calendar_holds(table, round_of(table) + (tuple(all_marks(table)),)))
            self.tells(table, table_read, table_shown(table))
            for piece in pieces(table):
                self.tells(True, joined, part(table, piece))
            if is_joined(table) and all_rounds(table):
                self.tells(True, turns_hold, table, turns_of(table))

    def test_truths_told_are_truths(self):
        for table in with_first(many_tables(412))[::9]:
            for answer in (full(table), joined(table), ever_full(table), same_marks(table, 1, 2), is_table(table)):
                self.assertIs(type(answer), bool)
            for deed in LOOKERS:
                self.assertIs(type(deed(table, ())), bool)


if __name__ == "__main__":
    unittest.main()
