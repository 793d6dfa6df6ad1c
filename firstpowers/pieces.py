"""The pieces of a table: places that are come to from one another."""

from firstpowers.errors import NoSet
from firstpowers.things import want_set, want_table


def reaches(table):
    """Tell, for each place, the list of whether each place is come to from it."""
    size = len(table)
    come = [[one == other or table[one][other] != 0 for other in range(size)] for one in range(size)]
    for by in range(size):
        for one in range(size):
            for other in range(size):
                if come[one][by] and come[by][other]:
                    come[one][other] = True
    return come


def pieces_by(come):
    """Tell the pieces, by their least places, of what is come to from where."""
    size = len(come)
    told = []
    for place in range(size):
        piece = tuple([other for other in range(size) if come[place][other] and come[other][place]])
        if piece[0] == place:
            told.append(piece)
    return told


def is_free(piece, left, come):
    """Tell whether a piece is come to from no other one of those that are left."""
    return not any([come[other[0]][piece[0]] for other in left if other != piece])


def pieces(table):
    """Tell the list of the pieces, by their least places."""
    want_table(table)
    return pieces_by(reaches(table))


def joined(table):
    """Tell whether there is one piece alone."""
    return len(pieces(table)) == 1


def ladder(table):
    """Tell the least row of the pieces in which each arrow between two goes to one further on."""
    want_table(table)
    come = reaches(table)
    left = pieces_by(come)
    told = []
    while left:
        # Pieces share no place, so the row whose next piece has the least place is the least one.
        piece = [each for each in left if is_free(each, left, come)][0]
        told.append(piece)
        left.remove(piece)
    return told


def part(table, some):
    """Tell the table of some places alone, in their order."""
    want_table(table)
    want_set(table, some)
    if some == ():
        raise NoSet("a set with one place or more is wanted")
    return tuple([tuple([table[one][other] for other in some]) for one in some])
