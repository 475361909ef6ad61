"""Books of a form, going along paths in them, and two of them beside one another."""

MOST_ROWS = 200


def is_book(form, book):
    rows = book[0]
    steps = book[1]
    arrows = form[1]
    if len(rows) != form[0] or len(steps) != len(arrows):
        return False
    if not all([0 <= height <= MOST_ROWS for height in rows]):
        return False
    return all([tells_rows(step, rows[arrow[0]], rows[arrow[1]]) for arrow, step in zip(arrows, steps)])


def tells_rows(told, length, height):
    return len(told) == length and all([0 <= row < height for row in told])


def went(book, path, row):
    for arrow in path:
        row = book[1][arrow][row]
    return row


def beside(form, one, other):
    rows = tuple([ahead + behind for ahead, behind in zip(one[0], other[0])])
    steps = []
    for number, arrow in enumerate(form[1]):
        # The other book's rows of the kind to which the arrow leads are numbered behind the one's.
        ahead = one[0][arrow[1]]
        steps.append(one[1][number] + tuple([ahead + row for row in other[1][number]]))
    return (rows, tuple(steps))
