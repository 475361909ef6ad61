"""Maps from a book to another one of the same form."""

from formshift.books import tells_rows
from formshift.errors import TooWide

MOST_TUPLES = 2000


def is_map(form, one, other, chart):
    if len(chart) != form[0]:
        return False
    if not all([tells_rows(column, length, height) for column, length, height in zip(chart, one[0], other[0])]):
        return False
    return keeps_steps(form, one, other, chart)


def keeps_steps(form, one, other, chart):
    for arrow, step, other_step in zip(form[1], one[1], other[1]):
        sent_then_went = [other_step[row] for row in chart[arrow[0]]]
        went_then_sent = [chart[arrow[1]][row] for row in step]
        if sent_then_went != went_then_sent:
            return False
    return True


def maps(form, one, other):
    # A kind with rows but nowhere to send them leaves no tuple at all, however many the other kinds have.
    if lacks_rows(one, other):
        return []
    if is_wide(one, other):
        raise TooWide("there could be more than 2,000 tuples of rows")
    columns = [picks([list(range(height))] * length) for length, height in zip(one[0], other[0])]
    return [chart for chart in picks(columns) if keeps_steps(form, one, other, chart)]


def lacks_rows(one, other):
    return any([length > 0 and height == 0 for length, height in zip(one[0], other[0])])


# The product is left as soon as it is too great: in full it may have far more than a thousand figures.
def is_wide(one, other):
    tuples = 1
    for length, height in zip(one[0], other[0]):
        for turn in range(length):
            tuples = tuples * height
            if tuples > MOST_TUPLES:
                return True
    return False


# One out of each list, in every way. The last list turns fastest, so lists in order make tuples in order.
def picks(lists):
    found = [()]
    for choices in lists:
        longer = []
        for ahead in found:
            longer.extend([ahead + (choice,) for choice in choices])
        found = longer
    return found


def sent(chart, more):
    return tuple([tuple([onward[row] for row in column]) for column, onward in zip(chart, more)])
