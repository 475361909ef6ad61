"""Points 1 and 14: forms and books written sign by sign, read to the same, and texts that are refused."""

import itertools
import re
import unittest

from formshift.books import is_book
from formshift.errors import NotRead, ShiftError, TooWide
from formshift.forms import is_form
from formshift.notes import book_shown, form_shown, read_book, read_form
from helping import (
    ARROW, BIGGER, CHAIN, FORMS, LINE, PAIR, POINT, TRIANGLE, TWO, Asking, all_books, books_of, names_of_arguments,
)

# Every sign that a text may have.
SIGNS = "\t\n" + "".join(chr(number) for number in range(32, 127) if number != ord("%"))
NUMBER = "(?:0|[1-9][0-9]*)"

TWINS = (3, ((0, 1), (0, 1), (1, 2)))
MOST = (4, ((0, 1), (0, 2), (1, 2), (1, 3), (2, 3)))
STEADY = tuple(range(200))


def form_by_hand(text):
    """The form that a text writes by point 14, or None."""
    if not re.fullmatch(f"{NUMBER}:(?: {NUMBER}>{NUMBER})*", text):
        return None
    arrows = tuple((int(start), int(end)) for start, end in re.findall(r" (\d+)>(\d+)", text))
    form = (int(text[:text.index(":")]), arrows)
    return form if is_form(form) else None


def book_by_hand(text, form):
    """The book of the form that a text writes by point 14, or None."""
    if not re.fullmatch(rf"{NUMBER}(?: {NUMBER})*(?: \|(?: {NUMBER})*)*", text):
        return None
    rows, *steps = [tuple(int(number) for number in part.split()) for part in text.split("|")]
    book = (rows, tuple(steps))
    return book if is_book(form, book) else None


def texts_near(text):
    """The text with one sign left out, put in or changed, at every place and with every sign."""
    for place in range(len(text)):
        yield text[:place] + text[place + 1:]
        for sign in SIGNS:
            yield text[:place] + sign + text[place + 1:]
    for place in range(len(text) + 1):
        for sign in SIGNS:
            yield text[:place] + sign + text[place:]


class Reading(Asking):
    def refused(self, asked, *given):
        with self.subTest(asked=asked.__name__, given=given):
            with self.assertRaises(NotRead) as caught:
                asked(*given)
            self.assertIsInstance(caught.exception, ShiftError)
            self.assertIsInstance(caught.exception, ValueError)
            self.assertNotIsInstance(caught.exception, TooWide)

    def read_or_refused(self, told, asked, *given):
        if told is None:
            self.refused(asked, *given)
        else:
            self.ask(told, asked, *given)


class Shown(unittest.TestCase):
    def shown(self, told, asked, *given):
        with self.subTest(asked=asked.__name__, given=given):
            found = asked(*given)
            self.assertIs(type(found), str)
            self.assertEqual(found, told)

    def test_forms(self):
        self.shown("3: 0>1 0>1 1>2", form_shown, TWINS)
        self.shown("2: 0>1", form_shown, ARROW)
        self.shown("3: 1>2 0>2 0>1", form_shown, TRIANGLE)
        self.shown("4: 0>1 0>2 1>2 1>3 2>3", form_shown, MOST)

    def test_forms_without_arrows(self):
        self.shown("1:", form_shown, POINT)
        self.shown("2:", form_shown, TWO)
        self.shown("4:", form_shown, (4, ()))

    def test_books(self):
        self.shown("2 1 | 0 0", book_shown, ((2, 1), ((0, 0),)))
        self.shown("3 2 | 1 0 1 | 0 0 1", book_shown, ((3, 2), ((1, 0, 1), (0, 0, 1))))
        self.shown("2 3 4 | 3 0 2 | 1 3 | 2 0", book_shown, BIGGER[TRIANGLE])
        self.shown("1 12 | 11", book_shown, ((1, 12), ((11,),)))

    def test_books_without_arrows_or_rows(self):
        self.shown("5", book_shown, ((5,), ()))
        self.shown("0", book_shown, ((0,), ()))
        self.shown("4 2", book_shown, ((4, 2), ()))
        self.shown("0 3 |", book_shown, ((0, 3), ((),)))
        self.shown("0 0 | |", book_shown, ((0, 0), ((), ())))
        self.shown("0 1 2 | | 1", book_shown, ((0, 1, 2), ((), (1,))))
        self.shown("1 1 0 1 | 0 | | 0", book_shown, ((1, 1, 0, 1), ((0,), (), (0,))))

    def test_the_most_rows(self):
        rows = " ".join(str(row) for row in range(200))
        self.shown("200 200 | " + rows, book_shown, ((200, 200), (STEADY,)))
        self.shown("200", book_shown, ((200,), ()))

    def test_what_lies_beyond_the_bounds_is_written_too(self):
        self.shown("12: 0>1 0>11 10>11 0>1 0>1 0>1", form_shown, (12, ((0, 1), (0, 11), (10, 11)) + ((0, 1),) * 3))
        self.shown("1 1000 | 999", book_shown, ((1, 1000), ((999,),)))
        self.shown("1 1 1 1 1", book_shown, ((1,) * 5, ()))


class ReadForm(Reading):
    def test_ordinary_texts(self):
        self.ask(TWINS, read_form, "3: 0>1 0>1 1>2")
        self.ask(POINT, read_form, "1:")
        self.ask((4, ()), read_form, "4:")
        self.ask((4, ((0, 3),)), read_form, "4: 0>3")

    def test_what_is_written_is_read_to_the_same(self):
        for kinds in range(1, 5):
            single = list(itertools.combinations(range(kinds), 2))
            for size in range(4):
                for arrows in itertools.product(single, repeat=size):
                    self.ask((kinds, arrows), read_form, form_shown((kinds, arrows)))
        for form in FORMS + (TWINS, MOST, (2, ((0, 1),) * 5)):
            self.ask(form, read_form, form_shown(form))

    def test_signs_alone(self):
        for text in ("", ":", " ", "|", ">", "0>1", "3", "3 :", ": 0>1", " :", "::", "\n", "\t", "3:>", "3: >", "-"):
            self.refused(read_form, text)

    def test_a_nought_ahead(self):
        for text in ("03: 0>1", "00: 0>1", "3: 00>1", "3: 0>01", "3: 0>1 01>2", "3: 0>1 1>02", "01:"):
            self.refused(read_form, text)

    def test_a_sign_ahead_of_a_number(self):
        for text in ("+3: 0>1", "-3: 0>1", "3: +0>1", "3: -0>1", "3: 0>+1", "3: 0>-1", "+1:", "-1:"):
            self.refused(read_form, text)

    def test_other_ways_to_write_a_number(self):
        for text in ("1_0:", "3.0:", "3e0:", "0x3:", "3: 0>1.0", "3: 0>1_", "three:", "3: a>b", "3: 0>1L", "3,: 0>1"):
            self.refused(read_form, text)

    def test_blanks_too_many_too_few_ahead_or_behind(self):
        for text in (
            " 3: 0>1 1>2", "3: 0>1 1>2 ", "3:  0>1 1>2", "3: 0>1  1>2", "3:0>1 1>2", "3: 0>11>2", "3 : 0>1 1>2",
            "3: 0 >1 1>2", "3: 0> 1 1>2", "1: ", " 1:", "1:  ", "3: 0 > 1",
        ):
            self.refused(read_form, text)

    def test_a_tab_or_a_line_end_in_a_blanks_place(self):
        for sign in ("\t", "\n"):
            for text in (
                "3:{}0>1 1>2", "3: 0>1{}1>2", "3: 0>1 1>2{}", "{}3: 0>1 1>2", "1:{}", "{}1:", "3{}: 0>1", "3: 0>1 {}",
            ):
                self.refused(read_form, text.replace("{}", sign))

    def test_what_is_no_form(self):
        for text in (
            "0:", "5:", "10:", "200:", "5: 0>1", "2: 1>0", "2: 0>0", "2: 1>1", "2: 0>2", "1: 0>1", "4: 0>4", "4: 3>4",
            "2: 0>1 0>1 0>1 0>1 0>1 0>1", "3: 0>1 2>1", "3: 0>10", "3: 0>1 1>12", "0: 0>1",
        ):
            self.refused(read_form, text)

    def test_a_part_too_many_or_too_few(self):
        for text in (
            "3: 0>1>2", "3: 0>>1", "3: 0>", "3: >1", "3: 0", "3: 0>1 2", "3:: 0>1", "3: 0>1:", "3: 0>1 |", "3; 0>1",
            "3: 0<1",
        ):
            self.refused(read_form, text)

    def test_numbers_of_many_figures(self):
        for figures in ("1000", "9" * 900, "9" * 1990, "9" * 5000, "1" + "0" * 5000, "0" * 1990):
            self.refused(read_form, figures + ":")
            self.refused(read_form, "3: 0>" + figures)
            self.refused(read_form, "3: " + figures + ">1")

    def test_long_texts(self):
        self.refused(read_form, "2:" + " 0>1" * 499)
        self.refused(read_form, " " * 2000)
        self.refused(read_form, "3: 0>1" + " " * 1990)
        self.refused(read_form, ">" * 2500)

    def test_every_text_one_sign_away(self):
        for form in (POINT, ARROW, TWINS, MOST):
            for text in texts_near(form_shown(form)):
                self.read_or_refused(form_by_hand(text), read_form, text)

    def test_every_short_text(self):
        for size in range(7):
            for signs in itertools.product("01:> ", repeat=size):
                text = "".join(signs)
                self.read_or_refused(form_by_hand(text), read_form, text)


class ReadBook(Reading):
    def test_ordinary_texts(self):
        self.ask(((2, 1), ((0, 0),)), read_book, "2 1 | 0 0", ARROW)
        self.ask(((5,), ()), read_book, "5", POINT)
        self.ask(((0,), ()), read_book, "0", POINT)
        self.ask(((0, 3), ((),)), read_book, "0 3 |", ARROW)
        self.ask(((0, 0), ((), ())), read_book, "0 0 | |", PAIR)
        self.ask(((0, 1, 2), ((), (1,))), read_book, "0 1 2 | | 1", CHAIN)

    def test_what_is_written_is_read_to_the_same(self):
        for form in FORMS:
            for book in books_of(form):
                self.ask(book, read_book, book_shown(book), form)
        for form in (ARROW, PAIR):
            for book in all_books(form, 2):
                self.ask(book, read_book, book_shown(book), form)

    def test_the_most_rows(self):
        for book in (((200, 200), (STEADY,)), ((200, 1), ((0,) * 200,))):
            self.ask(book, read_book, book_shown(book), ARROW)
        self.ask(((200,), ()), read_book, "200", POINT)
        self.refused(read_book, "201", POINT)
        self.refused(read_book, "1 201 | 0", ARROW)
        self.refused(read_book, book_shown(((201, 1), ((0,) * 201,))), ARROW)

    def test_a_text_beyond_the_bound_is_not_refused_for_it(self):
        book = ((200,) * 4, (STEADY,) * 5)
        text = book_shown(book)
        self.assertGreater(len(text), 2000)
        self.ask(book, read_book, text, MOST)

    def test_a_form_beyond_the_bounds_is_not_refused(self):
        form = (6, ((0, 5),) * 6)
        book = ((1, 0, 0, 0, 0, 2), ((0,), (1,), (0,), (1,), (0,), (1,)))
        self.ask(book, read_book, "1 0 0 0 0 2 | 0 | 1 | 0 | 1 | 0 | 1", form)
        self.refused(read_book, "1 0 0 0 0 2 | 0 | 1 | 0 | 1 | 0", form)

    def test_signs_alone(self):
        for form in (POINT, TWO, ARROW):
            for text in ("", " ", "|", "| ", " |", "||", "-", ":", ">", "\n", "\t", "| 0", "0 0|"):
                self.refused(read_book, text, form)

    def test_a_nought_ahead(self):
        for text in ("02 1 | 0 0", "2 01 | 0 0", "2 1 | 00 0", "2 1 | 0 00", "2 1 | 0 000"):
            self.refused(read_book, text, ARROW)
        self.refused(read_book, "00", POINT)
        self.refused(read_book, "05", POINT)

    def test_a_sign_ahead_of_a_number(self):
        for text in ("+2 1 | 0 0", "2 +1 | 0 0", "2 1 | +0 0", "2 1 | -0 0", "2 1 | 0 -0", "2 1 | 0 -1", "-2 1 | 0 0"):
            self.refused(read_book, text, ARROW)
        self.refused(read_book, "-0", POINT)
        self.refused(read_book, "+0", POINT)

    def test_other_ways_to_write_a_number(self):
        for text in ("1_0", "5.0", "5e0", "0x5", "five", "5,", "5;", "(5)", "5L", "'5'"):
            self.refused(read_book, text, POINT)

    def test_blanks_too_many_too_few_ahead_or_behind(self):
        for text in (
            " 2 1 | 0 0", "2 1 | 0 0 ", "2  1 | 0 0", "2 1  | 0 0", "2 1 |  0 0", "2 1 | 0  0", "21 | 0 0", "2 1| 0 0",
            "2 1 |0 0", "2 1 | 00", "2 1|0 0", "2 1 | 0 0  ",
        ):
            self.refused(read_book, text, ARROW)
        for text in ("0 3 | ", "0 3|", "0 3  |", " 0 3 |"):
            self.refused(read_book, text, ARROW)
        for text in ("0 0 ||", "0 0 |  |", "0 0 | | ", "0 0| |"):
            self.refused(read_book, text, PAIR)
        for text in ("5 ", " 5"):
            self.refused(read_book, text, POINT)

    def test_a_tab_or_a_line_end_in_a_blanks_place(self):
        for sign in ("\t", "\n"):
            text = "2 1 | 0 0"
            for place in range(len(text)):
                if text[place] == " ":
                    self.refused(read_book, text[:place] + sign + text[place + 1:], ARROW)
            self.refused(read_book, text + sign, ARROW)
            self.refused(read_book, sign + text, ARROW)
            self.refused(read_book, "5" + sign, POINT)

    def test_what_is_no_book_of_the_form(self):
        for text in (
            "2 1", "2 1 |", "2 1 | 0", "2 1 | 0 0 0", "2 1 | 0 1", "2 1 | 0 0 |", "2 1 | 0 0 | 0 0", "2 1 1 | 0 0",
            "2 | 0 0", "1 0 | 0", "0 0", "0 0 | 0", "0 0 | |", "2 1 0 0", "| 0 0 | 2 1",
        ):
            self.refused(read_book, text, ARROW)

    def test_a_book_of_another_form(self):
        texts = {form: book_shown(BIGGER[form]) for form in FORMS}
        for one, other in itertools.permutations(FORMS, 2):
            self.refused(read_book, texts[one], other)

    def test_numbers_of_many_figures(self):
        for figures in ("1000", "9" * 900, "9" * 1990, "9" * 5000, "1" + "0" * 5000, "0" * 1990):
            self.refused(read_book, figures, POINT)
            self.refused(read_book, "1 1 | " + figures, ARROW)

    def test_every_text_one_sign_away(self):
        cases = (
            (POINT, ((5,), ())), (POINT, ((20,), ())), (ARROW, ((2, 1), ((0, 0),))), (ARROW, ((0, 3), ((),))),
            (PAIR, ((1, 12), ((11,), (3,)))), (LINE, ((1, 1, 0, 1), ((0,), (), (0,)))), (LINE, ((0,) * 4, ((),) * 3)),
        )
        for form, book in cases:
            for text in texts_near(book_shown(book)):
                self.read_or_refused(book_by_hand(text, form), read_book, text, form)

    def test_every_short_text(self):
        for form in (POINT, TWO, ARROW, PAIR):
            for size in range(8):
                for signs in itertools.product("01| ", repeat=size):
                    text = "".join(signs)
                    self.read_or_refused(book_by_hand(text, form), read_book, text, form)


class Interface(unittest.TestCase):
    def test_names_of_the_arguments(self):
        told = ((form_shown, ["form"]), (book_shown, ["book"]), (read_form, ["text"]), (read_book, ["text", "form"]))
        for asked, names in told:
            self.assertEqual(names_of_arguments(asked), names)


if __name__ == "__main__":
    unittest.main()
