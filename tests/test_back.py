"""Points 1, 7 and 8: books and maps taken back along a shift, along two of them, and along a form's own one."""

import itertools
import unittest

from formshift.back import map_back, taken_back
from formshift.books import is_book
from formshift.maps import is_map, maps, sent
from formshift.shifts import joined, own_shift
from helping import (
    ARROW, BIGGER, CHAIN, CHAIN_BOOK, FORMS, LINE, LINE_BOOK, PAIR, POINT, TRIANGLE, TRIANGLE_BOOK, TWO, Asking,
    all_shifts, books_of, names_of_arguments,
)


def by_hand(source, shift, book):
    """The book that is taken back, kind by kind and row by row, as point 8 tells."""
    places, ways = shift
    steps = []
    for (start, end), way in zip(source[1], ways):
        step = list(range(book[0][places[start]]))
        for arrow in way:
            step = [book[1][arrow][row] for row in step]
        steps.append(tuple(step))
    return (tuple(book[0][places[kind]] for kind in range(source[0])), tuple(steps))


class TakenBack(Asking):
    def check(self, source, shift, book, told):
        self.ask(told, taken_back, source, shift, book)
        self.assertTrue(is_book(source, told))

    def test_ways_of_one_arrow(self):
        self.check(ARROW, ((0, 1), ((0,),)), CHAIN_BOOK, ((3, 2), ((1, 0, 1),)))
        self.check(ARROW, ((1, 2), ((1,),)), CHAIN_BOOK, ((2, 4), ((3, 2),)))
        self.check(ARROW, ((0, 2), ((1,),)), TRIANGLE_BOOK, ((2, 4), ((1, 3),)))

    def test_ways_of_several_arrows(self):
        self.check(ARROW, ((0, 2), ((0, 1),)), CHAIN_BOOK, ((3, 4), ((2, 3, 2),)))
        self.check(ARROW, ((0, 2), ((2, 0),)), TRIANGLE_BOOK, ((2, 4), ((2, 3),)))
        self.check(ARROW, ((0, 3), ((0, 1, 2),)), LINE_BOOK, ((2, 4), ((3, 1),)))
        self.check(CHAIN, ((0, 1, 3), ((0,), (1, 2))), LINE_BOOK, ((2, 3, 4), ((2, 0), (1, 3, 3))))

    def test_several_arrows(self):
        self.check(PAIR, ((0, 2), ((1,), (2, 0))), TRIANGLE_BOOK, ((2, 4), ((1, 3), (2, 3))))
        self.check(PAIR, ((0, 2), ((2, 0), (1,))), TRIANGLE_BOOK, ((2, 4), ((2, 3), (1, 3))))
        told = ((2, 3, 4), ((1, 3, 3), (3, 1), (2, 0)))
        self.check(TRIANGLE, ((0, 1, 3), ((1, 2), (0, 1, 2), (0,))), LINE_BOOK, told)

    def test_ways_of_no_arrows(self):
        self.check(ARROW, ((2, 2), ((),)), CHAIN_BOOK, ((4, 4), ((0, 1, 2, 3),)))
        self.check(ARROW, ((1, 1), ((),)), CHAIN_BOOK, ((2, 2), ((0, 1),)))
        self.check(CHAIN, ((0, 0, 1), ((), (0,))), CHAIN_BOOK, ((3, 3, 2), ((0, 1, 2), (1, 0, 1))))
        self.check(CHAIN, ((1, 2, 2), ((1,), ())), CHAIN_BOOK, ((2, 4, 4), ((3, 2), (0, 1, 2, 3))))
        self.check(PAIR, ((0, 0), ((), ())), ((3,), ()), ((3, 3), ((0, 1, 2), (0, 1, 2))))

    def test_two_kinds_with_one_place(self):
        self.check(TWO, ((1, 1), ()), CHAIN_BOOK, ((2, 2), ()))
        self.check(TWO, ((2, 2), ()), CHAIN_BOOK, ((4, 4), ()))
        self.check((3, ((0, 2), (1, 2))), ((0, 0, 2), ((0, 1), (0, 1))), CHAIN_BOOK, ((3, 3, 4), ((2, 3, 2),) * 2))
        self.check((3, ((0, 2), (0, 1))), ((0, 1, 1), ((0,), (0,))), CHAIN_BOOK, ((3, 2, 2), ((1, 0, 1),) * 2))

    def test_forms_without_arrows(self):
        self.check(POINT, ((2,), ()), CHAIN_BOOK, ((4,), ()))
        self.check(TWO, ((2, 0), ()), CHAIN_BOOK, ((4, 3), ()))
        self.check(POINT, ((0,), ()), ((5,), ()), ((5,), ()))

    def test_no_rows(self):
        self.check(ARROW, ((0, 2), ((0, 1),)), ((0, 0, 0), ((), ())), ((0, 0), ((),)))
        self.check(ARROW, ((0, 2), ((0, 1),)), ((0, 2, 4), ((), (1, 1))), ((0, 4), ((),)))
        self.check(ARROW, ((0, 0), ((),)), ((0, 2, 4), ((), (1, 1))), ((0, 0), ((),)))

    def test_every_shift_between_small_forms(self):
        for source, target in itertools.product(FORMS, repeat=2):
            for shift in all_shifts(source, target):
                for book in books_of(target):
                    self.check(source, shift, book, by_hand(source, shift, book))

    def test_along_the_own_shift_it_stays_as_it_is(self):
        for form in FORMS:
            for book in books_of(form):
                self.check(form, own_shift(form), book, book)

    def test_along_two_shifts_one_behind_the_other(self):
        for first, second, third in itertools.product((TWO, ARROW, PAIR), (ARROW, PAIR, CHAIN), (ARROW, TRIANGLE, LINE)):
            book = BIGGER[third]
            for one, other in itertools.product(all_shifts(first, second), list(all_shifts(second, third))):
                told = taken_back(first, one, taken_back(second, other, book))
                self.check(first, joined(one, other), book, told)

    def test_the_most_rows(self):
        turned = tuple(reversed(range(200)))
        book = ((200, 200, 200), (turned, turned))
        self.check(ARROW, ((0, 2), ((0, 1),)), book, ((200, 200), (tuple(range(200)),)))

    def test_a_book_beyond_the_bounds_is_not_refused(self):
        turned = tuple(reversed(range(250)))
        book = ((250, 250, 250), (turned, turned))
        self.assertEqual(taken_back(ARROW, ((0, 1), ((0,),)), book), ((250, 250), (turned,)))
        self.assertEqual(taken_back(ARROW, ((0, 2), ((0, 1),)), book), ((250, 250), (tuple(range(250)),)))

    def test_forms_beyond_the_bounds_are_not_refused(self):
        target = (6, ((0, 1), (1, 2), (2, 3), (3, 4), (4, 5), (0, 5)))
        book = ((2,) * 6, ((1, 0),) * 6)
        self.check(PAIR, ((0, 5), ((0, 1, 2, 3, 4), (5,))), book, ((2, 2), ((1, 0), (1, 0))))
        self.check(target, own_shift(target), book, book)


class MapBack(Asking):
    def check(self, shift, chart, told):
        self.ask(told, map_back, shift, chart)

    def test_rows_of_each_kind_as_those_of_its_place(self):
        self.check(((0, 2), ((0, 1),)), ((0, 0), (1, 0), (2,)), ((0, 0), (2,)))
        self.check(((2, 0), ()), ((0, 0), (1, 0), (2,)), ((2,), (0, 0)))
        self.check(((1,), ()), ((0, 0), (1, 0), (2,)), ((1, 0),))

    def test_two_kinds_with_one_place(self):
        self.check(((1, 1), ((),)), ((0, 0), (1, 0), (2,)), ((1, 0), (1, 0)))
        self.check(((2, 0, 2), ()), ((0, 0), (1, 0), (2,)), ((2,), (0, 0), (2,)))

    def test_no_rows(self):
        self.check(((1, 0), ()), ((), (3,)), ((3,), ()))
        self.check(((0, 0), ((),)), ((),), ((), ()))

    def test_a_chart_that_is_no_map(self):
        self.check(((2, 0), ()), ((9, -3), (), (500, 500, 1)), ((500, 500, 1), (9, -3)))
        self.check(((0, 1), ((0,),)), ((1, 0, 0), (-1,)), ((1, 0, 0), (-1,)))
        self.check(((1, 1), ((),)), ((4,), (7, 7, 7, 7)), ((7, 7, 7, 7), (7, 7, 7, 7)))

    def test_along_the_own_shift_it_stays_as_it_is(self):
        for form in FORMS:
            for chart in itertools.product(((), (0,), (1, 1), (5, -2, 0)), repeat=form[0]):
                self.check(own_shift(form), chart, chart)

    def test_along_two_shifts_one_behind_the_other(self):
        for first, second, third in itertools.product((TWO, ARROW, PAIR), (ARROW, PAIR, CHAIN), (ARROW, TRIANGLE, LINE)):
            chart = ((3, 0), (), (1, 2, 1), (7,))[:third[0]]
            for one, other in itertools.product(all_shifts(first, second), list(all_shifts(second, third))):
                self.check(joined(one, other), chart, map_back(one, map_back(other, chart)))

    def test_a_map_is_taken_back_to_a_map(self):
        one = ((2, 2, 1), ((0, 1), (0, 0)))
        other = ((3, 3, 2), ((0, 1, 2), (0, 0, 1)))
        charts = maps(CHAIN, one, other)
        self.assertEqual(len(charts), 5)
        for source in (POINT, TWO, ARROW, PAIR, CHAIN):
            for shift in all_shifts(source, CHAIN):
                nearer = taken_back(source, shift, one)
                further = taken_back(source, shift, other)
                for chart in charts:
                    told = tuple(chart[shift[0][kind]] for kind in range(source[0]))
                    self.check(shift, chart, told)
                    self.assertIs(is_map(source, nearer, further, map_back(shift, chart)), True)

    def test_maps_one_behind_the_other(self):
        book = ((2, 2, 1), ((0, 1), (0, 0)))
        charts = maps(CHAIN, book, book)
        for chart, more in itertools.product(charts, repeat=2):
            for shift in all_shifts(PAIR, CHAIN):
                self.check(shift, sent(chart, more), sent(map_back(shift, chart), map_back(shift, more)))

    def test_rows_beyond_the_bounds_are_not_refused(self):
        column = tuple(range(300))
        self.check(((1, 0), ()), (column, ()), ((), column))


class Interface(unittest.TestCase):
    def test_names_of_the_arguments(self):
        self.assertEqual(names_of_arguments(taken_back), ["source", "shift", "book"])
        self.assertEqual(names_of_arguments(map_back), ["shift", "chart"])


if __name__ == "__main__":
    unittest.main()
