"""Points 1, 4 and 5: what a book is, how one goes along a path, and books beside one another."""

import copy
import itertools
import unittest

from formshift.books import beside, is_book, went
from helping import Asking, changed, names_of_arguments

ONE_KIND = (1, ())
NO_ARROW = (3, ())
ARROW = (2, ((0, 1),))
TWINS = (3, ((0, 1), (0, 1), (1, 2)))
CHAIN = (4, ((0, 1), (1, 2), (2, 3)))
# The first arrow goes from a later kind than the second one.
TURNED = (3, ((1, 2), (0, 2), (0, 1)))

TWINS_BOOK = ((3, 2, 2), ((0, 1, 1), (1, 1, 0), (1, 0)))
CHAIN_BOOK = ((2, 3, 2, 4), ((2, 0), (1, 0, 0), (3, 1)))
TURNED_BOOK = ((2, 3, 4), ((3, 0, 2), (1, 3), (2, 0)))
BOOKS = ((TWINS, TWINS_BOOK), (CHAIN, CHAIN_BOOK), (TURNED, TURNED_BOOK))


def with_step(book, number, step):
    return (book[0], changed(book[1], number, step))


class IsBook(Asking):
    def check(self, form, book, told):
        self.ask_whether(told, is_book, form, book)

    def test_ordinary_books(self):
        for form, book in BOOKS:
            self.check(form, book, True)
        self.check(ARROW, ((2, 1), ((0, 0),)), True)

    def test_no_rows(self):
        self.check(ONE_KIND, ((0,), ()), True)
        self.check(ARROW, ((0, 0), ((),)), True)
        self.check(ARROW, ((0, 3), ((),)), True)
        self.check(CHAIN, ((0, 0, 0, 0), ((), (), ())), True)

    def test_rows_that_have_nowhere_to_go(self):
        self.check(ARROW, ((1, 0), ((0,),)), False)
        self.check(ARROW, ((1, 0), ((),)), False)

    def test_no_arrows(self):
        self.check(ONE_KIND, ((7,), ()), True)
        self.check(NO_ARROW, ((0, 5, 200), ()), True)
        self.check((4, ()), ((1, 2, 3, 4), ()), True)

    def test_the_most_rows(self):
        self.check(ONE_KIND, ((200,), ()), True)
        self.check(ONE_KIND, ((199,), ()), True)
        self.check(ARROW, ((200, 200), (tuple(range(200)),)), True)
        self.check(ARROW, ((200, 1), ((0,) * 200,)), True)
        self.check(ARROW, ((1, 200), ((199,),)), True)

    def test_more_than_the_most_rows(self):
        self.check(ONE_KIND, ((201,), ()), False)
        self.check(ARROW, ((201, 1), ((0,) * 201,)), False)
        self.check(ARROW, ((1, 201), ((0,),)), False)
        for kind in range(3):
            self.check(NO_ARROW, (changed((1, 1, 1), kind, 201), ()), False)

    def test_rows_below_nought(self):
        self.check(ONE_KIND, ((-1,), ()), False)
        self.check(ARROW, ((-1, 1), ((),)), False)
        self.check(ARROW, ((0, -1), ((),)), False)
        for kind in range(3):
            self.check(NO_ARROW, (changed((1, 1, 1), kind, -1), ()), False)

    def test_a_kind_too_many_or_too_few(self):
        self.check(ONE_KIND, ((), ()), False)
        self.check(ONE_KIND, ((1, 1), ()), False)
        self.check(ARROW, ((2,), ((0, 0),)), False)
        self.check(ARROW, ((), ((),)), False)
        self.check(ARROW, ((2, 1, 0), ((0, 0),)), False)
        for form, book in BOOKS:
            self.check(form, (book[0] + (0,), book[1]), False)
            self.check(form, (book[0][:-1], book[1]), False)

    def test_a_step_too_many_or_too_few(self):
        self.check(ONE_KIND, ((1,), ((),)), False)
        self.check(ONE_KIND, ((1,), ((0,),)), False)
        self.check(ARROW, ((0, 0), ()), False)
        self.check(ARROW, ((0, 0), ((), ())), False)
        for form, book in BOOKS:
            self.check(form, (book[0], book[1] + ((),)), False)
            self.check(form, (book[0], book[1] + book[1][-1:]), False)
            self.check(form, (book[0], book[1][:-1]), False)
            self.check(form, (book[0], ()), False)

    def test_a_tuple_of_a_step_too_long_or_too_short(self):
        self.check(ARROW, ((0, 1), ((0,),)), False)
        for form, book in BOOKS:
            for number, step in enumerate(book[1]):
                self.check(form, with_step(book, number, step + (0,)), False)
                self.check(form, with_step(book, number, step[:-1]), False)
                self.check(form, with_step(book, number, ()), False)

    def test_a_row_of_a_step_beyond_or_below_nought(self):
        for form, book in BOOKS:
            for number, step in enumerate(book[1]):
                height = book[0][form[1][number][1]]
                for place in range(len(step)):
                    for row in range(-3, height + 3):
                        told = row in list(range(height))
                        self.check(form, with_step(book, number, changed(step, place, row)), told)

    def test_every_small_book_of_one_arrow(self):
        for rows in itertools.product(range(-1, 4), repeat=2):
            for size in range(4):
                for step in itertools.product(range(-1, 4), repeat=size):
                    told = min(rows) >= 0 and size == rows[0] and all(row in range(rows[1]) for row in step)
                    self.check(ARROW, (rows, (step,)), told)

    def test_a_form_beyond_the_bounds_is_not_refused(self):
        form = (5, ((0, 4),) * 6)
        self.check(form, ((1, 0, 0, 0, 2), ((0,), (1,), (0,), (1,), (0,), (1,))), True)
        self.check(form, ((1, 0, 0, 0, 2), ((0,), (1,), (0,), (1,), (0,), (2,))), False)


class Went(unittest.TestCase):
    def test_no_arrow(self):
        for row in range(3):
            self.assertEqual(went(TWINS_BOOK, (), row), row)
        self.assertEqual(went(((5,), ()), (), 4), 4)

    def test_one_arrow(self):
        for form, book in BOOKS:
            for number, step in enumerate(book[1]):
                for row, reached in enumerate(step):
                    with self.subTest(book=book, number=number, row=row):
                        self.assertEqual(went(book, (number,), row), reached)

    def test_several_arrows(self):
        self.assertEqual([went(CHAIN_BOOK, (0, 1), row) for row in range(2)], [0, 1])
        self.assertEqual([went(CHAIN_BOOK, (0, 1, 2), row) for row in range(2)], [3, 1])
        self.assertEqual([went(CHAIN_BOOK, (1, 2), row) for row in range(3)], [1, 3, 3])
        self.assertEqual([went(TWINS_BOOK, (0, 2), row) for row in range(3)], [1, 0, 0])
        self.assertEqual([went(TWINS_BOOK, (1, 2), row) for row in range(3)], [0, 0, 1])
        self.assertEqual([went(TURNED_BOOK, (2, 0), row) for row in range(2)], [2, 3])

    def test_a_book_beyond_the_bounds_is_not_refused(self):
        book = ((250, 250), (tuple(reversed(range(250))),))
        self.assertEqual(went(book, (0,), 249), 0)
        self.assertEqual(went(book, (0,), 0), 249)

    def test_what_is_handed_in_is_the_same_afterwards(self):
        book = copy.deepcopy(CHAIN_BOOK)
        path = (0, 1, 2)
        went(book, path, 0)
        self.assertEqual(book, CHAIN_BOOK)
        self.assertEqual(path, (0, 1, 2))


class Beside(Asking):
    def check(self, form, one, other, told):
        self.ask(told, beside, form, one, other)
        self.assertTrue(is_book(form, told))

    def test_ordinary_books(self):
        one = ((2, 1), ((0, 0),))
        other = ((1, 3), ((2,),))
        self.check(ARROW, one, other, ((3, 4), ((0, 0, 3),)))
        self.check(ARROW, other, one, ((3, 4), ((2, 3, 3),)))

    def test_several_arrows(self):
        other = ((1, 1, 3), ((0,), (0,), (2,)))
        self.check(TWINS, TWINS_BOOK, other, ((4, 3, 5), ((0, 1, 1, 2), (1, 1, 0, 2), (1, 0, 4))))
        self.check(TWINS, other, TWINS_BOOK, ((4, 3, 5), ((0, 1, 2, 2), (0, 2, 2, 1), (2, 4, 3))))

    def test_a_book_beside_itself(self):
        told = ((4, 6, 8), ((3, 0, 2, 7, 4, 6), (1, 3, 5, 7), (2, 0, 5, 3)))
        self.check(TURNED, TURNED_BOOK, TURNED_BOOK, told)

    def test_no_arrows(self):
        self.check(ONE_KIND, ((2,), ()), ((3,), ()), ((5,), ()))
        self.check(NO_ARROW, ((2, 0, 1), ()), ((0, 4, 1), ()), ((2, 4, 2), ()))

    def test_one_of_them_has_no_rows_of_some_kind(self):
        one = ((0, 2), ((),))
        other = ((2, 1), ((0, 0),))
        self.check(ARROW, one, other, ((2, 3), ((2, 2),)))
        self.check(ARROW, other, one, ((2, 3), ((0, 0),)))
        self.check(ARROW, one, one, ((0, 4), ((),)))

    def test_one_of_them_has_no_rows_at_all(self):
        for form, book in BOOKS:
            empty = ((0,) * form[0], ((),) * len(form[1]))
            self.check(form, book, empty, book)
            self.check(form, empty, book, book)
            self.check(form, empty, empty, empty)

    def test_the_most_rows(self):
        half = ((100, 100), (tuple(range(100)),))
        self.check(ARROW, half, half, ((200, 200), (tuple(range(200)),)))

    def test_more_than_the_most_rows_are_not_refused(self):
        full = ((200, 150), ((149,) * 200,))
        self.assertEqual(beside(ARROW, full, full), ((400, 300), ((149,) * 200 + (299,) * 200,)))

    def test_each_row_goes_as_it_went_in_its_own_book(self):
        other = ((3, 1, 4), ((2,), (3, 0, 1), (0, 0, 0)))
        both = beside(TURNED, TURNED_BOOK, other)
        for number, (start, end) in enumerate(TURNED[1]):
            for row in range(TURNED_BOOK[0][start]):
                self.assertEqual(went(both, (number,), row), went(TURNED_BOOK, (number,), row))
            for row in range(other[0][start]):
                reached = went(both, (number,), TURNED_BOOK[0][start] + row)
                self.assertEqual(reached, TURNED_BOOK[0][end] + went(other, (number,), row))


class Interface(unittest.TestCase):
    def test_names_of_the_arguments(self):
        told = ((is_book, ["form", "book"]), (went, ["book", "path", "row"]), (beside, ["form", "one", "other"]))
        for asked, names in told:
            self.assertEqual(names_of_arguments(asked), names)


if __name__ == "__main__":
    unittest.main()
