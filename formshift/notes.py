"""Forms and books written as texts, and read from them."""

from formshift.books import is_book
from formshift.errors import NotRead
from formshift.forms import is_form

FIGURES = "0123456789"
# No number in a form or a book is greater than 200; a number of some thousand figures int itself would refuse.
MOST_FIGURES = 3


def form_shown(form):
    return " ".join([str(form[0]) + ":"] + [f"{a}>{b}" for a, b in form[1]])


def book_shown(book):
    parts = [str(height) for height in book[0]]
    for step in book[1]:
        parts.append("|")
        parts.extend([str(row) for row in step])
    return " ".join(parts)


def read_form(text):
    parts = text.split(" ")
    if not parts[0].endswith(":"):
        raise NotRead("there is no number of kinds with a colon")
    form = (read_number(parts[0][:-1]), tuple([read_arrow(part) for part in parts[1:]]))
    if not is_form(form):
        raise NotRead("what is written is no form")
    return form


def read_arrow(part):
    ends = part.split(">")
    if len(ends) != 2:
        raise NotRead(f"no arrow: {part!r}")
    return (read_number(ends[0]), read_number(ends[1]))


def read_book(text, form):
    groups = [[]]
    for part in text.split(" "):
        if part == "|":
            groups.append([])
        else:
            groups[-1].append(read_number(part))
    book = (tuple(groups[0]), tuple([tuple(group) for group in groups[1:]]))
    if not is_book(form, book):
        raise NotRead("what is written is no book of the form")
    return book


def read_number(part):
    if not is_number(part):
        raise NotRead(f"no number: {part!r}")
    return int(part)


def is_number(part):
    if not 1 <= len(part) <= MOST_FIGURES:
        return False
    if part[0] == "0" and part != "0":
        return False
    return all([sign in FIGURES for sign in part])
