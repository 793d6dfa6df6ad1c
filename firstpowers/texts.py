"""Tables written as texts, and read again."""

from firstpowers.errors import NoText
from firstpowers.things import MOST_ROWS, want_table

FIGURES = "0123456789"
MOST_FIGURES = 12
PART_FIGURES = 64
PART = 10 ** 64


def number_shown(number):
    """Tell a whole number from 0 on, written by figures."""
    # Python's own str refuses numbers of some thousand figures, so great ones are written part by part.
    parts = []
    while number >= PART:
        number, part = divmod(number, PART)
        parts.append(str(part).zfill(PART_FIGURES))
    parts.append(str(number))
    return "".join(parts[::-1])


def writes_number(word, most):
    """Tell whether a word writes a whole number, by at most so many figures and without a nought ahead."""
    if not 1 <= len(word) <= most or not all([sign in FIGURES for sign in word]):
        return False
    return word == "0" or word[0] != "0"


def table_shown(table):
    """Tell the text that writes a table."""
    want_table(table)
    return "/".join([" ".join([number_shown(number) for number in row]) for row in table])


def table_read(text):
    """Tell the table that a text writes."""
    if not isinstance(text, str):
        raise NoText(-1)
    rows = [row.split(" ") for row in text.split("/")]
    if len(rows) > MOST_ROWS:
        raise NoText(0)
    for at, words in enumerate(rows):
        if len(words) != len(rows) or not all([writes_number(word, MOST_FIGURES) for word in words]):
            raise NoText(at)
    return tuple([tuple([int(word) for word in words]) for words in rows])
