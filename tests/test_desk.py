import unittest

from firstpowers.desk import Desk
from firstpowers.errors import Apart, NoNumber, NoPlace, NoRow, NoSet, NoText
from tests.support import (
    Case, Numbers, all_mark_tables, alike, come_to, first_wanted, marks_until_again, marks_wanted, round_table,
    slow_table, square, table_of, tables_of_all_sorts, times, whatever,
)

DEED_WORDS = {"table", "set", "power", "turned", "marks", "more", "less"}
WRONG_ROWS = [
    "", " ", "  ", "x", "ok", "none", "yes", "no", "0", "1 2", "Shown", "SHOWN", "showns", "show", "shown ", " shown",
    "shown 1", "shown shown", "full ", "full 0", "first 1", "first ", "pieces 0", "beat 0", "round 0", "meeting 0",
    "rows 0", "rows ", "turned 0", "turned ", "marks 0", "more 0", "more ", "more 1", "back 0", "back ", "back 1",
    " back", "back back", "Back", "undo", "less", "less ", "less 0 0", "less x", "less -1", "less 00", "less 01",
    "less 100", "less 000", "less  0", "less 0 ", "power", "power ", "power x", "power -1", "power 00", "power 01",
    "power 060", "power 100", "power 600", "power 1 1", "power  1", "power 1 ", "power +1", "power 1.0", "power 1/1",
    "set", "set ", "set 0", "set 0 0", "set 0 0 ", "set 0 0 0 0", "set 0 0 x", "set x 0 0", "set 0 x 0", "set 0 0 00",
    "set 00 0 0", "set 0 00 0", "set 0 0 01", "set 0 0 100", "set 0 100 0", "set 100 0 0", "set 0 0 -1", "set -1 0 0",
    "set 0  0 0", "set  0 0 0", "set 0 0 0 ", " set 0 0 0", "set 0 0 1.5", "set 0 0 0/0", "set 0/0 0 0", "set 0,0,0",
    "walks", "walks 0", "walks 0 0", "walks 0 0 0 0", "walks 0 0 x", "walks x 0 0", "walks 0 x 0", "walks 0 0 00",
    "walks 00 0 0", "walks 0 0 100", "walks 0 0 -1", "walks 0  0 0", "walks 0 0 0 ", "walk 0 0 0",
    "after", "after ", "after 0", "after 3", "after 3 ", "after x 0", "after 0 x", "after 0 0 x", "after 00 0",
    "after 0 00", "after 100 0", "after 0 100", "after -1 0", "after 0 -1", "after  0 0", "after 0  0", "after 0 0 ",
    "after 0 0 00", "after 0 (0)", "after 0 0,0", "after 0 0;0",
    "table", "Table 0", "TABLE 0", "tables 0", "tables", " table 0", "table/0", "tabl 0", "table0", "set table 0",
    "~", "!", "shown;", "shown/", "full?", "rows rows",
]
# Rows whose form is wrong, though they would be refused otherwise, too.
WRONG_FORM_AHEAD = [
    "set 9 9 x", "set 9 x 0", "set 9 9 100", "set 9 9", "walks 9 9 x", "walks 9 9 99 1", "walks 0 0 100", "less 9 9",
    "less 9x", "power 99 1", "power 99 ", "after 3 9 x", "after 3 x 9", "after 9", "beat 9", "rows 9", "more 9",
]


def shown(table):
    return "/".join([" ".join(map(str, row)) for row in table])


def numbers_shown(numbers):
    return " ".join(map(str, numbers)) if numbers else "none"


def multiplied(one, other):
    size = range(len(one))
    return tuple([tuple([sum([one[i][k] * other[k][j] for k in size]) for j in size]) for i in size])


def power_wanted(table, k):
    size = range(len(table))
    told = tuple([tuple([int(i == j) for j in size]) for i in size])
    for step in range(k):
        told = multiplied(told, table)
    return told


def after_deed(table, row):
    """The table after a deed, but for back; its row is one that is taken."""
    word, *rest = row.split(" ")
    size = range(len(table))
    if word == "table":
        return tuple([tuple(map(int, numbers.split(" "))) for numbers in row[6:].split("/")])
    numbers = list(map(int, rest))
    if word == "set":
        return tuple([tuple([numbers[2] if [i, j] == numbers[:2] else table[i][j] for j in size]) for i in size])
    if word == "power":
        return power_wanted(table, numbers[0])
    if word == "turned":
        return tuple(zip(*table))
    if word == "marks":
        return marks_wanted(table)
    if word == "more":
        return tuple([row + (0,) for row in table]) + ((0,) * (len(table) + 1),)
    return tuple([tuple([table[i][j] for j in size if j != numbers[0]]) for i in size if i != numbers[0]])


def pieces_wanted(table):
    told = []
    for place in range(len(table)):
        piece = [other for other in sorted(come_to(table, place)) if place in come_to(table, other)]
        if piece not in told:
            told.append(piece)
    return "; ".join([numbers_shown(piece) for piece in told])


def rows_wanted(table):
    """The answer to rows, of a table with a first power."""
    told = marks_until_again(table)
    return numbers_shown([
        min([k for k, each in enumerate(told, start=1) if all(each[place])]) for place in range(len(table))
    ])


def meeting_wanted(table):
    for k, each in enumerate(marks_until_again(table), start=1):
        if all(any(a and b for a, b in zip(one, other)) for one in each for other in each):
            return str(k)
    return "none"


def round_wanted(table):
    told = marks_until_again(table)
    ahead = told.index(times(told[-1], table)) + 1
    return f"{ahead} {len(told) + 1 - ahead}"


def after_wanted(table, k, places):
    some = set(places)
    for step in range(k):
        some = {head for place in some for head in range(len(table)) if table[place][head]}
    return numbers_shown(sorted(some))


class DeskCase(Case):
    def desk(self, *rows):
        """A desk that was told these deeds."""
        told = Desk()
        for row in rows:
            self.says(told, "ok", row)
        return told

    def says(self, desk, wanted, row):
        answer = desk.say(row)
        if not alike(wanted, answer):
            self.fail(f"{row!r}: {answer!r}, not {wanted!r}")

    def keeps(self, desk, wanted):
        self.says(desk, wanted, "shown")

    def refused(self, kind, desk, row, **fields):
        """The row is refused, and changes nothing, neither the table nor what stands."""
        before = desk.say("shown")
        self.bears(kind, fields, desk.say, row)
        self.keeps(desk, before)

    def answers(self, desk, row):
        """What the desk answers, or the class of its refusal."""
        try:
            return desk.say(row)
        except ValueError as refusal:
            return type(refusal)


class Deeds(DeskCase):
    def test_at_first(self):
        self.keeps(Desk(), "0")

    def test_table(self):
        desk = self.desk("table 0 1/1 1")
        self.keeps(desk, "0 1/1 1")
        self.says(desk, "ok", "table 7")
        self.keeps(desk, "7")
        self.says(desk, "ok", "table 999999999999 100/0 123456789012")
        self.keeps(desk, "999999999999 100/0 123456789012")

    def test_table_of_each_sort(self):
        desk = Desk()
        for table in tables_of_all_sorts(351, 1)[::7]:
            self.says(desk, "ok", "table " + shown(table))
            self.keeps(desk, shown(table))

    def test_table_refused(self):
        desk = self.desk("table 0 1/1 1")
        for row, at in (
            ("table ", 0), ("table  ", 0), ("table  0", 0), ("table 0 ", 0), ("table x", 0), ("table 00", 0),
            ("table 0 1/1", 1), ("table 0 1/1 x", 1), ("table 0 1/1 1 ", 1), ("table 0 1/ 1 1", 1), ("table 0/1", 0),
            ("table 1000000000000", 0), ("table /", 0), ("table " + "/".join(["1 1 1 1 1 1 1"] * 7), 0),
            ("table table 0", 0), ("table 0 0 0/0 0 0/0 0", 2), ("table -1", 0), ("table shown", 0),
        ):
            self.refused(NoText, desk, row, at=at)
        self.says(desk, "ok", "back")
        self.keeps(desk, "0")

    def test_table_wants_its_blank(self):
        desk = self.desk("table 4")
        self.refused(NoRow, desk, "table")
        self.refused(NoText, desk, "table ", at=0)

    def test_set(self):
        desk = self.desk("table 1 2/3 4", "set 0 1 99")
        self.keeps(desk, "1 99/3 4")
        self.says(desk, "ok", "set 1 0 0")
        self.keeps(desk, "1 99/0 4")
        self.says(desk, "ok", "set 1 1 4")
        self.keeps(desk, "1 99/0 4")

    def test_set_at_each_place(self):
        for size in range(1, 7):
            for i in range(size):
                for j in range(size):
                    desk = self.desk("table " + shown(square(size, 5)), f"set {i} {j} 10")
                    self.keeps(desk, shown(after_deed(square(size, 5), f"set {i} {j} 10")))

    def test_set_refused(self):
        desk = self.desk("table 1 2/3 4")
        for row in ("set 2 0 1", "set 0 2 1", "set 2 2 1", "set 99 0 1", "set 0 99 0", "set 10 10 10"):
            self.refused(NoPlace, desk, row)
        for row in ("set 1 0 1", "set 0 1 1"):
            self.refused(NoPlace, Desk(), row)

    def test_power(self):
        table = ((0, 5), (6, 7))
        for k in range(61):
            self.keeps(self.desk("table 0 5/6 7", f"power {k}"), shown(power_wanted(table, k)))
        for k in range(61, 100):
            self.refused(NoNumber, self.desk("table 0 5/6 7"), f"power {k}")

    def test_power_of_none(self):
        self.keeps(self.desk("table 0 5/6 7", "power 0"), "1 0/0 1")
        self.keeps(self.desk("power 0"), "1")

    def test_power_of_a_power(self):
        desk = self.desk("table 99", "power 60", "power 60")
        answer = desk.say("shown")
        self.assertEqual(len(answer), 7185)
        number = 0
        for at in range(0, len(answer), 1000):
            number = number * 10 ** len(answer[at:at + 1000]) + int(answer[at:at + 1000])
        self.assertEqual(number, 99 ** 3600)
        self.says(desk, "yes", "full")
        self.says(desk, "1", "first")
        self.says(desk, "ok", "marks")
        self.keeps(desk, "1")

    def test_turned_and_marks(self):
        desk = self.desk("table 1 2 0/4 0 6/7 8 9", "turned")
        self.keeps(desk, "1 4 7/2 0 8/0 6 9")
        self.says(desk, "ok", "marks")
        self.keeps(desk, "1 1 1/1 0 1/0 1 1")

    def test_more(self):
        desk = self.desk("table 5")
        table = ((5,),)
        for size in range(2, 7):
            self.says(desk, "ok", "more")
            table = after_deed(table, "more")
            self.keeps(desk, shown(table))
        self.refused(NoNumber, desk, "more")
        self.keeps(desk, "5 0 0 0 0 0" + "/0 0 0 0 0 0" * 5)

    def test_less(self):
        table = tuple([tuple([10 * i + j for j in range(6)]) for i in range(6)])
        for place in range(6):
            desk = self.desk("table " + shown(table), f"less {place}")
            self.keeps(desk, shown(after_deed(table, f"less {place}")))
        self.keeps(self.desk("table 1 2/3 4", "less 0"), "4")
        self.keeps(self.desk("table 1 2/3 4", "less 1"), "1")

    def test_less_refused(self):
        desk = self.desk("table 1 2/3 4")
        for row in ("less 2", "less 3", "less 10", "less 99"):
            self.refused(NoPlace, desk, row)
        for row in ("less 1", "less 2", "less 99"):
            self.refused(NoPlace, Desk(), row)
        self.refused(NoNumber, Desk(), "less 0")
        self.refused(NoNumber, self.desk("table 7"), "less 0")

    def test_less_undoes_more(self):
        desk = self.desk("table 1 2/3 4", "more", "less 2")
        self.keeps(desk, "1 2/3 4")


class Back(DeskCase):
    def test_where_none_stands(self):
        self.refused(NoRow, Desk(), "back")
        desk = self.desk("table 5", "back")
        self.refused(NoRow, desk, "back")
        self.keeps(desk, "0")

    def test_each_deed_is_undone(self):
        for row in ("table 5", "set 0 1 9", "power 3", "turned", "marks", "more", "less 0"):
            desk = self.desk("table 0 2/3 4", row)
            self.says(desk, "ok", "back")
            self.keeps(desk, "0 2/3 4")
            self.says(desk, "ok", "back")
            self.keeps(desk, "0")
            self.refused(NoRow, desk, "back")

    def test_a_deed_that_changed_nothing_stands_too(self):
        for row in ("table 1", "set 0 0 1", "power 1", "turned", "marks"):
            desk = self.desk("table 1", row)
            self.says(desk, "ok", "back")
            self.keeps(desk, "1")
            self.says(desk, "ok", "back")
            self.keeps(desk, "0")
            self.refused(NoRow, desk, "back")

    def test_through_all_deeds(self):
        rows = ["table 1 2/3 4", "set 0 0 0", "power 2", "more", "turned", "set 2 1 8", "marks", "less 0", "more",
                "power 0", "table 0", "set 0 0 9"]
        desk = Desk()
        seen = []
        for row in rows:
            seen.append(desk.say("shown"))
            self.says(desk, "ok", row)
        for wanted in reversed(seen):
            self.says(desk, "ok", "back")
            self.keeps(desk, wanted)
        self.refused(NoRow, desk, "back")

    def test_back_itself_is_not_undone(self):
        desk = self.desk("table 1", "table 2", "table 3", "back", "back")
        self.keeps(desk, "1")

    def test_a_deed_behind_back(self):
        desk = self.desk("table 1", "table 2", "back", "table 3")
        self.keeps(desk, "3")
        self.says(desk, "ok", "back")
        self.keeps(desk, "1")
        self.says(desk, "ok", "back")
        self.keeps(desk, "0")

    def test_questions_and_what_is_refused_do_not_stand(self):
        desk = self.desk("table 1 1/1 0", "more")
        for row in ("shown", "full", "first", "pieces", "round", "meeting", "walks 0 1 3", "after 2 0"):
            desk.say(row)
        for row, kind in (("set 7 0 0", NoPlace), ("power 61", NoNumber), ("less 7", NoPlace), ("beat", Apart),
                          ("rows", Apart), ("x", NoRow), ("after 1 7", NoSet), ("walks 7 0 0", NoPlace)):
            self.refused(kind, desk, row)
        self.refused(NoText, desk, "table x", at=0)
        self.says(desk, "ok", "back")
        self.keeps(desk, "1 1/1 0")
        self.says(desk, "ok", "back")
        self.keeps(desk, "0")

    def test_very_often(self):
        desk = Desk()
        for at in range(500):
            self.says(desk, "ok", f"set 0 0 {at % 100}")
        for at in reversed(range(499)):
            self.says(desk, "ok", "back")
            self.keeps(desk, str(at % 100))


class Questions(DeskCase):
    def test_written_out(self):
        desk = self.desk("table 0 5/6 7")
        for row, wanted in (
            ("shown", "0 5/6 7"), ("full", "no"), ("first", "2"), ("pieces", "0 1"), ("beat", "1"), ("round", "2 1"),
            ("meeting", "1"), ("rows", "2 1"), ("walks 0 1 3", "2"), ("after 1 0", "1"), ("after 2 0", "0 1"),
        ):
            self.says(desk, wanted, row)
            self.says(desk, wanted, row)

    def test_at_first(self):
        desk = Desk()
        for row, wanted in (
            ("shown", "0"), ("full", "no"), ("first", "none"), ("pieces", "0"), ("beat", "0"), ("round", "1 1"),
            ("meeting", "none"), ("walks 0 0 0", "1"), ("walks 0 0 1", "0"), ("after 0 0", "0"), ("after 1 0", "none"),
        ):
            self.says(desk, wanted, row)
        self.refused(Apart, desk, "rows")

    def test_several_pieces(self):
        desk = self.desk("table " + shown(table_of(5, {(0, 3), (3, 0), (1, 1), (2, 4), (4, 2), (0, 1)})))
        self.says(desk, "0 3; 1; 2 4", "pieces")
        self.says(desk, "none", "first")
        self.says(desk, "none", "meeting")
        self.says(desk, "2 2", "round")
        self.refused(Apart, desk, "beat")
        self.refused(Apart, desk, "rows")

    def test_yes_and_no(self):
        self.says(self.desk("table 1"), "yes", "full")
        self.says(self.desk("table 1 1/1 1"), "yes", "full")
        self.says(self.desk("table 1 1/1 0"), "no", "full")

    def test_beat(self):
        for size in range(1, 7):
            self.says(self.desk("table " + shown(round_table(size))), str(size), "beat")
        self.refused(Apart, self.desk("table 1 1/0 1"), "beat")

    def test_slow_tables(self):
        for size in range(2, 7):
            desk = self.desk("table " + shown(slow_table(size)))
            self.says(desk, str((size - 1) ** 2 + 1), "first")
            self.says(desk, f"{(size - 1) ** 2 + 1} 1", "round")
            self.says(desk, rows_wanted(slow_table(size)), "rows")
            self.says(desk, meeting_wanted(slow_table(size)), "meeting")

    def test_questions_of_one_word_over_many_tables(self):
        desk = Desk()
        for table in tables_of_all_sorts(352, 1)[::3] + all_mark_tables(4)[::1501]:
            self.says(desk, "ok", "table " + shown(table))
            first = first_wanted(table)
            self.says(desk, "none" if first is None else str(first), "first")
            self.says(desk, "yes" if first == 1 else "no", "full")
            self.says(desk, pieces_wanted(table), "pieces")
            self.says(desk, round_wanted(table), "round")
            self.says(desk, meeting_wanted(table), "meeting")
            if first is None:
                self.refused(Apart, desk, "rows")
            else:
                self.says(desk, rows_wanted(table), "rows")
                self.says(desk, "1", "beat")
            if ";" in desk.say("pieces"):
                self.refused(Apart, desk, "beat")

    def test_walks(self):
        table = ((0, 5), (6, 7))
        desk = self.desk("table 0 5/6 7")
        for k in range(41):
            counts = power_wanted(marks_wanted(table), k)
            for i in range(2):
                for j in range(2):
                    self.says(desk, str(counts[i][j]), f"walks {i} {j} {k}")
        desk = self.desk("table " + shown(square(6, 1)))
        self.says(desk, str(6 ** 39), "walks 5 0 40")

    def test_walks_refused(self):
        desk = self.desk("table 0 5/6 7")
        for row in ("walks 2 0 1", "walks 0 2 1", "walks 99 99 1", "walks 2 0 41", "walks 0 2 99"):
            self.refused(NoPlace, desk, row)
        for row in ("walks 0 0 41", "walks 1 1 99"):
            self.refused(NoNumber, desk, row)

    def test_after_with_places_in_any_order_and_told_again(self):
        table = table_of(6, {(0, 1), (1, 2), (2, 0), (3, 4), (4, 3), (5, 5), (5, 0)})
        desk = self.desk("table " + shown(table))
        for places in ((0,), (5, 0), (0, 5), (3, 1, 2), (1, 2, 3), (2, 2), (5, 3, 5, 3, 0), (0, 1, 2, 3, 4, 5) * 3,
                       (5, 4, 3, 2, 1, 0)):
            for k in (0, 1, 2, 3, 7, 10, 60, 61, 99):
                row = f"after {k} " + " ".join(map(str, places))
                self.says(desk, after_wanted(table, k, places), row)

    def test_after_that_leads_nowhere(self):
        desk = self.desk("table 0 1/0 0")
        self.says(desk, "1", "after 1 0")
        self.says(desk, "none", "after 1 1")
        self.says(desk, "none", "after 2 0 1")
        self.says(desk, "none", "after 99 1 0 1")

    def test_after_refused(self):
        desk = self.desk("table 0 5/6 7")
        for row in ("after 1 2", "after 1 0 2", "after 1 2 0", "after 0 99", "after 99 0 1 2", "after 1 2 2"):
            self.refused(NoSet, desk, row)


class NoRows(DeskCase):
    def test_rows_that_are_none(self):
        for desk in (Desk(), self.desk("table 1 1/1 1"), self.desk("table 0 1/1 1", "more")):
            for row in WRONG_ROWS + WRONG_FORM_AHEAD:
                self.refused(NoRow, desk, row)

    def test_ahead_of_all_else(self):
        # Six rows: more would be refused otherwise, and no desk with this table has rows.
        desk = self.desk("table " + shown(square(6, 0)))
        for row in WRONG_FORM_AHEAD + ["more 1", "rows 1", "beat 0"]:
            self.refused(NoRow, desk, row)

    def test_what_is_no_text(self):
        desk = self.desk("table 0 1/1 1")
        for thing in whatever():
            if not isinstance(thing, str):
                self.refused(NoRow, desk, thing)
        for thing in (("shown",), ["shown"], {"shown": "shown"}, ["table", "0"], ((0, 1), (1, 1)), 0, True):
            self.refused(NoRow, desk, thing)

    def test_numbers_of_three_figures(self):
        desk = self.desk("table 0 1/1 1")
        for row in ("set 0 0 {}", "set 0 {} 0", "set {} 0 0", "power {}", "less {}", "walks {} 0 0", "walks 0 {} 0",
                    "walks 0 0 {}", "after {} 0", "after 0 {}", "after 0 0 {}"):
            for word in ("100", "999", "1000", "000", "00", "01", "007", "-1", "+1", "x", "", "1.", "~", "0x"):
                self.refused(NoRow, desk, row.replace("{}", word))

    def test_signs_beyond_the_plain_ones(self):
        desk = self.desk("table 0 1/1 1")
        for row in ("shown\n", "power \u0661", "power 1\n", "set 0 0 \u00b2", "shown\t", "more\r", "power\u00a01"):
            self.refused(NoRow, desk, row)

    def test_by_name(self):
        desk = Desk()
        self.tells("0", desk.say, row="shown")
        self.bears(NoRow, {}, desk.say, row=None)


class Desks(DeskCase):
    def test_two_desks_apart(self):
        one, other = Desk(), Desk()
        self.says(one, "ok", "table 1 2/3 4")
        self.keeps(other, "0")
        self.says(other, "ok", "table 9")
        self.keeps(one, "1 2/3 4")
        self.says(one, "ok", "back")
        self.keeps(other, "9")
        self.refused(NoRow, one, "back")
        self.says(other, "ok", "back")
        self.keeps(Desk(), "0")

    def test_the_answers_hang_on_the_deeds_that_stand_alone(self):
        # Another desk is told the deeds that stand, and nothing else: it must answer all alike.
        numbers = Numbers(353)
        rows = ["table 1 1/1 0", "table 0 1 0/0 0 2/3 1 0", "set 0 0 0", "set 1 0 12", "set 2 2 7", "set 0 1 0",
                "power 2", "power 0", "power 61", "turned", "marks", "more", "more", "less 0", "less 2", "back", "back",
                "table x", "shown", "first", "rows", "beat", "after 3 0", "walks 0 1 4", "pieces", "round", "meeting"]
        for run in range(60):
            desk, table, standing = Desk(), ((0,),), []
            for step in range(25):
                row = rows[numbers.below(len(rows))]
                answer = self.answers(desk, row)
                if row == "back":
                    self.assertEqual(answer, "ok" if standing else NoRow)
                    standing = standing[:-1]
                elif answer == "ok":
                    self.assertIn(row.split(" ")[0], DEED_WORDS)
                    standing = standing + [row]
                table = ((0,),)
                for deed in standing:
                    table = after_deed(table, deed)
                self.keeps(desk, shown(table))
            fresh = self.desk(*standing)
            for row in ("shown", "full", "first", "pieces", "beat", "round", "meeting", "rows", "walks 0 0 5",
                        "after 4 0", "back", "shown"):
                self.assertEqual(self.answers(desk, row), self.answers(fresh, row))


if __name__ == "__main__":
    unittest.main()
