"""Books and maps taken back along a shift."""

from formshift.books import went


def taken_back(source, shift, book):
    rows = tuple([book[0][place] for place in shift[0]])
    steps = []
    for arrow, way in zip(source[1], shift[1]):
        steps.append(tuple([went(book, way, row) for row in range(rows[arrow[0]])]))
    return (rows, tuple(steps))


def map_back(shift, chart):
    return tuple([chart[place] for place in shift[0]])
