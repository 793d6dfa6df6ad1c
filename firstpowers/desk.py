"""The desk: it keeps a table, and is told rows that change it or ask about it."""

from firstpowers.afters import set_after
from firstpowers.comings import round_of
from firstpowers.errors import NoNumber, NoRow
from firstpowers.firsts import first_power
from firstpowers.pieces import pieces
from firstpowers.powers import power
from firstpowers.rounds import beat
from firstpowers.rows import first_row, meeting
from firstpowers.tables import full, marks, turned
from firstpowers.texts import table_read, table_shown, writes_number
from firstpowers.things import MOST_ROWS, want_place
from firstpowers.walks import walks_many

MOST_FIGURES = 2
TABLE = "table "


def with_number(table, numbers):
    """Tell the table with another number at a row and a place."""
    row, place, number = numbers
    want_place(table, row)
    want_place(table, place)
    changed = table[row][:place] + (number,) + table[row][place + 1:]
    return table[:row] + (changed,) + table[row + 1:]


def to_power(table, numbers):
    """Tell the table's power."""
    return power(table, numbers[0])


def to_turned(table, numbers):
    """Tell the turned table; no numbers are handed in."""
    return turned(table)


def to_marks(table, numbers):
    """Tell the table's marks; no numbers are handed in."""
    return marks(table)


def with_more(table, numbers):
    """Tell the table with one row and place of noughts more; no numbers are handed in."""
    size = len(table)
    if size == MOST_ROWS:
        raise NoNumber("a table has six rows at most")
    return tuple([row + (0,) for row in table]) + ((0,) * (size + 1),)


def with_less(table, numbers):
    """Tell the table without the row and the place of a number."""
    out = numbers[0]
    want_place(table, out)
    if len(table) == 1:
        raise NoNumber("a table has one row at least")
    return tuple([row[:out] + row[out + 1:] for row in table[:out] + table[out + 1:]])


def numbers_shown(numbers):
    """Tell numbers as an answer, none where there are none."""
    return " ".join([str(number) for number in numbers]) if len(numbers) > 0 else "none"


def number_or_none(number):
    """Tell a number, or None, as an answer."""
    return "none" if number is None else str(number)


def ask_shown(table, numbers):
    """Answer with the table; no numbers are handed in, as for the other questions of one word."""
    return table_shown(table)


def ask_full(table, numbers):
    """Answer whether no number is 0."""
    return "yes" if full(table) else "no"


def ask_first(table, numbers):
    """Answer with the first power."""
    return number_or_none(first_power(table))


def ask_pieces(table, numbers):
    """Answer with the pieces."""
    return "; ".join([numbers_shown(piece) for piece in pieces(table)])


def ask_beat(table, numbers):
    """Answer with the beat."""
    return str(beat(table))


def ask_round(table, numbers):
    """Answer with how the marks come round."""
    return numbers_shown(round_of(table))


def ask_meeting(table, numbers):
    """Answer with the least power in which any two rows meet."""
    return number_or_none(meeting(table))


def ask_rows(table, numbers):
    """Answer with the first power of each row."""
    return numbers_shown([first_row(table, place) for place in range(len(table))])


def ask_walks(table, numbers):
    """Answer with how many walks of so many steps lead from one place to another."""
    one, other, k = numbers
    return str(walks_many(table, one, other, k))


def ask_after(table, numbers):
    """Answer with the places to which so many steps lead from the places told."""
    k, *places = numbers
    return numbers_shown(set_after(table, tuple(sorted(set(places))), k))


DEEDS = {
    "set": with_number, "power": to_power, "turned": to_turned, "marks": to_marks, "more": with_more,
    "less": with_less,
}
QUESTIONS = {
    "shown": ask_shown, "full": ask_full, "first": ask_first, "pieces": ask_pieces, "beat": ask_beat,
    "round": ask_round, "meeting": ask_meeting, "rows": ask_rows, "walks": ask_walks, "after": ask_after,
}
# How many numbers stand behind the word of a row; of after it is the fewest.
NUMBERS = {
    "set": 3, "power": 1, "turned": 0, "marks": 0, "more": 0, "less": 1, "back": 0, "shown": 0, "full": 0,
    "first": 0, "pieces": 0, "beat": 0, "round": 0, "meeting": 0, "rows": 0, "walks": 3, "after": 2,
}


def takes_numbers(word, many):
    """Tell whether a row of this word takes so many numbers."""
    if word == "after":
        return many >= NUMBERS[word]
    return word in NUMBERS and many == NUMBERS[word]


def row_read(row):
    """Tell the word and the list of the numbers of a row, and refuse what is none."""
    if not isinstance(row, str):
        raise NoRow("a row is a text")
    word, *rest = row.split(" ")
    if not takes_numbers(word, len(rest)) or not all([writes_number(each, MOST_FIGURES) for each in rest]):
        raise NoRow("the desk does not know this row")
    return word, [int(each) for each in rest]


class Desk:
    """A desk that keeps a table, told rows one at a time."""

    def __init__(self):
        # The table at first, and one more behind it for each deed that stands.
        self.kept = [((0,),)]

    def say(self, row):
        """Do or answer what a row says."""
        if isinstance(row, str) and row.startswith(TABLE):
            return self.keep(table_read(row[len(TABLE):]))
        word, numbers = row_read(row)
        if word == "back":
            return self.undo()
        if word in DEEDS:
            deed = DEEDS[word]
            return self.keep(deed(self.kept[-1], numbers))
        question = QUESTIONS[word]
        return question(self.kept[-1], numbers)

    def keep(self, table):
        """Keep a table from now on."""
        self.kept.append(table)
        return "ok"

    def undo(self):
        """Keep again what was kept ahead of the last deed."""
        if len(self.kept) == 1:
            raise NoRow("no deed stands that could be undone")
        self.kept.pop()
        return "ok"
