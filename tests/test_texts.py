import unittest

from firstpowers.errors import NoTable, NoText
from firstpowers.powers import power
from firstpowers.texts import table_read, table_shown
from tests.support import Case, Numbers, all_mark_tables, no_tables, slow_table, square, tables_of_all_sorts, whatever

MOST_READ = 10 ** 12 - 1
WRONG_WORDS = [
    "", "00", "01", "007", "0000000000001", "-1", "-0", "+1", "1.", "1.0", ".5", "1e3", "x", "a", "0x1", "1_0", "_1",
    "1,", ",", "~", "!", "None", "True", "I", "(1", "1)", "[1]", "'1'", "1;", "1\\1", "1000000000000", "9" * 13,
    "1" * 14, "1" * 40, "9" * 5000, "0" * 13, "1 ", " 1", "1  1", "1-1", "--1", "1+1", "O", "l", "1:1", "1=1", "$1",
]
NUMBER_WORDS = {
    "0": 0, "1": 1, "7": 7, "10": 10, "99": 99, "100": 100, "2000000": 2000000, "999999999999": MOST_READ,
    "100000000000": 10 ** 11, "123456789012": 123456789012,
}


def written(table):
    """The text of a table, sign by sign."""
    told = ""
    for at, row in enumerate(table):
        told += "/" if at else ""
        for place, number in enumerate(row):
            told += " " if place else ""
            told += str(number)
    return told


def number_of(figures):
    """The number that figures write, figure by figure."""
    told = 0
    for figure in figures:
        told = told * 10 + "0123456789".index(figure)
    return told


def filled(size, word):
    """The text of a table of a size with one word everywhere."""
    return "/".join([" ".join([word] * size)] * size)


def many_tables(seed):
    return tables_of_all_sorts(seed, 2) + all_mark_tables(4)[::997] + [square(size, MOST_READ) for size in range(1, 7)]


class TableShown(Case):
    def test_written_out(self):
        self.tells("0 1/1 1", table_shown, ((0, 1), (1, 1)))
        self.tells("0", table_shown, ((0,),))
        self.tells("10", table_shown, ((10,),))
        self.tells("1 2 3/4 5 6/70 80 900", table_shown, ((1, 2, 3), (4, 5, 6), (70, 80, 900)))

    def test_many(self):
        for table in many_tables(341):
            self.tells(written(table), table_shown, table)

    def test_great_numbers(self):
        for number in (10 ** 12, 10 ** 31 - 1, 10 ** 31, 10 ** 63, 10 ** 64 - 1, 10 ** 64, 10 ** 64 + 1, 10 ** 65 + 7,
                       10 ** 100, 10 ** 128 - 1, 10 ** 128, 10 ** 128 + 10 ** 64, 3 ** 999, 10 ** 4000 + 5):
            self.tells(str(number), table_shown, ((number,),))
            self.tells(f"0 {number}/{number} 1", table_shown, ((0, number), (number, 1)))

    def test_numbers_of_more_figures_than_python_itself_writes(self):
        for figures in ("9" * 5000, "1" + "0" * 6000, "7" * 4301, "123456789" * 1111, "5" + "0" * 5000 + "5"):
            self.tells(figures, table_shown, ((number_of(figures),),))

    def test_powers(self):
        great = power(power(((98, 99), (99, 97)), 60), 60)
        rows = [row.split(" ") for row in self.ask(table_shown, great).split("/")]
        self.assertTrue(all(len(word) > 5000 and word[0] != "0" for row in rows for word in row))
        self.assertEqual(tuple([tuple([number_of(word) for word in row]) for row in rows]), great)

    def test_no_table(self):
        for thing in no_tables():
            self.refuses(NoTable, table_shown, thing)

    def test_by_name(self):
        self.tells("0 1/1 1", table_shown, table=((0, 1), (1, 1)))


class TableRead(Case):
    def test_written_out(self):
        self.tells(((0, 1), (1, 1)), table_read, "0 1/1 1")
        self.tells(((0,),), table_read, "0")
        self.tells(((10,),), table_read, "10")
        self.tells(((1, 2, 3), (4, 5, 6), (70, 80, 900)), table_read, "1 2 3/4 5 6/70 80 900")

    def test_each_that_is_shown_is_read_again(self):
        for table in many_tables(342):
            self.tells(table, table_read, written(table))
            self.tells(table, table_read, table_shown(table))

    def test_numbers(self):
        for word, number in NUMBER_WORDS.items():
            for size in range(1, 7):
                self.tells(square(size, number), table_read, filled(size, word))

    def test_wrong_words(self):
        numbers = Numbers(343)
        for word in WRONG_WORDS:
            for size in range(1, 7):
                self.bears(NoText, {"at": 0}, table_read, filled(size, word))
                row, place = numbers.below(size), numbers.below(size)
                rows = [["7"] * size for at in range(size)]
                rows[row][place] = word
                self.bears(NoText, {"at": row}, table_read, "/".join(map(" ".join, rows)))

    def test_the_word_at_each_place(self):
        for size in range(1, 7):
            for row in range(size):
                for place in range(size):
                    for word in ("01", "x", "", "1000000000000"):
                        rows = [["0"] * size for at in range(size)]
                        rows[row][place] = word
                        self.bears(NoText, {"at": row}, table_read, "/".join(map(" ".join, rows)))

    def test_the_first_row_that_is_wrong(self):
        self.bears(NoText, {"at": 1}, table_read, "0 0 0/0 0/0 0 x")
        self.bears(NoText, {"at": 1}, table_read, "0 0 0/0 0 x/0 0")
        self.bears(NoText, {"at": 0}, table_read, "0 0/0 0 0/0 0 0")
        self.bears(NoText, {"at": 0}, table_read, "x/0 0")
        self.bears(NoText, {"at": 2}, table_read, "0 0 0/0 0 0/0 0 00")
        self.bears(NoText, {"at": 5}, table_read, filled(6, "1") + " 1")

    def test_rows_too_long_and_too_short(self):
        for size in range(1, 7):
            row = " ".join(["1"] * size)
            for at in range(size):
                rows = [row] * size
                for wrong in (row + " 1", row[:-2], row + " 1 1", row + " ", " " + row, row.replace(" ", "  ", 1)):
                    if wrong != row:
                        rows[at] = wrong
                        self.bears(NoText, {"at": at}, table_read, "/".join(rows))

    def test_rows_too_many_and_too_few(self):
        for size in range(2, 7):
            row = " ".join(["1"] * size)
            self.bears(NoText, {"at": 0}, table_read, "/".join([row] * (size - 1)))
            self.bears(NoText, {"at": 0}, table_read, "/".join([row] * (size + 1)))
            self.bears(NoText, {"at": 0}, table_read, "/" + "/".join([row] * size))
            self.bears(NoText, {"at": 0}, table_read, "/".join([row] * size) + "/")

    def test_more_than_six_rows(self):
        for size in (7, 8, 12):
            for text in (filled(size, "1"), filled(size, "x"), "/" * (size - 1), "/".join(["1"] * size)):
                self.bears(NoText, {"at": 0}, table_read, text)
        # The first row with another number of numbers would be the one at 2.
        seven = " ".join(["1"] * 7)
        self.bears(NoText, {"at": 0}, table_read, "/".join([seven, seven, "1", seven, seven, seven, seven]))

    def test_slashes_and_blanks(self):
        for text in ("", " ", "  ", "/", "//", " /", "/ ", " / ", "0/", "/0", "0 ", " 0", "0  1/1 1", "0 1 /1 1",
                     "0 1//1 1", " 0 1/1 1", "0/1/1/1", "0 1 1 1", "0,1/1,1", "0 1\\1 1", "0 1;1 1", "0 1|1 1"):
            self.bears(NoText, {"at": 0}, table_read, text)
        for text in ("0 1/ 1 1", "0 1/1 1 ", "0 1/1  1", "0 1/", "0 1/ ", "0 1/1", "0 1/1 1 1", "0 1/1,1", "0 1/11"):
            self.bears(NoText, {"at": 1}, table_read, text)

    def test_signs_beyond_the_plain_ones(self):
        for word in ("\u0661", "\u00b2", "\uff11", "1\u0660", "1\n", "\t1", "1\r", "\u00a01"):
            self.bears(NoText, {"at": 0}, table_read, word)
            self.bears(NoText, {"at": 1}, table_read, f"1 1/1 {word}")

    def test_what_is_no_text(self):
        for thing in whatever():
            if isinstance(thing, str):
                continue
            self.bears(NoText, {"at": -1}, table_read, thing)
        for thing in (((0, 1), (1, 1)), ("0 1/1 1",), ["0"], {"0": "1"}, (), 0, 10 ** 30):
            self.bears(NoText, {"at": -1}, table_read, thing)

    def test_truths_though_texts_like_them_were_asked(self):
        self.tells(((1,),), table_read, "1")
        self.bears(NoText, {"at": -1}, table_read, 1)
        self.bears(NoText, {"at": -1}, table_read, True)

    def test_slow_tables(self):
        for size in range(2, 7):
            self.tells(slow_table(size), table_read, written(slow_table(size)))

    def test_by_name(self):
        self.tells(((0, 1), (1, 1)), table_read, text="0 1/1 1")
        self.bears(NoText, {"at": -1}, table_read, text=None)


if __name__ == "__main__":
    unittest.main()
