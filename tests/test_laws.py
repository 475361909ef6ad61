"""Point 13, and points 5, 8, 9, 11 and 12 together: what holds over the whole program."""

import itertools
import unittest

from formshift.back import map_back, taken_back
from formshift.books import beside, went
from formshift.maps import is_map, maps, sent
from formshift.on import carried, map_on, unit
from formshift.shifts import joined, own_shift
from formshift.turn import into, out_of
from helping import (
    ARROW, BIGGER, CHAIN, FORMS, LINE, PAIR, POINT, TRIANGLE, TWO, all_books, all_shifts, books_of, tables_by_hand,
)

SPREAD = (3, ((0, 1), (0, 2)))
STEADY = tuple(range(200))
TURNED = tuple(reversed(range(200)))


def still(book):
    return tuple(tuple(range(height)) for height in book[0])


def own_row_each(columns, rows):
    """Whether each column meets each of so many rows just once."""
    return [sorted(column) for column in columns] == [list(range(height)) for height in rows]


class OwnShift(unittest.TestCase):
    def check(self, form, book):
        with self.subTest(form=form, book=book):
            shift = own_shift(form)
            found = carried(form, form, shift, book)
            self.assertEqual(found[0], book[0])
            chart = unit(form, form, shift, book)
            self.assertTrue(own_row_each(chart, book[0]))
            self.assertIs(is_map(form, book, found, chart), True)

    def test_small_books(self):
        for form in FORMS:
            for book in books_of(form):
                self.check(form, book)
        for form in (POINT, TWO, ARROW, PAIR, SPREAD):
            for book in all_books(form, 2):
                self.check(form, book)

    def test_the_unit_need_not_keep_the_numbers(self):
        book = ((1, 3), ((2,),))
        self.assertEqual(unit(ARROW, ARROW, own_shift(ARROW), book), ((0,), (1, 2, 0)))
        self.assertEqual(carried(ARROW, ARROW, own_shift(ARROW), book), ((1, 3), ((0,),)))

    def test_the_most_rows(self):
        self.check(LINE, ((200,) * 4, (TURNED, (7,) * 200, TURNED)))
        self.check(TRIANGLE, ((200,) * 3, (TURNED, STEADY, (199,) * 200)))


class TwoShifts(unittest.TestCase):
    def check(self, forms, one, other, book):
        """Along both at once and along one and then the other; and the map of point 13, triple by triple."""
        first, second, third = forms
        both = joined(one, other)
        whole = carried(first, third, both, book)
        middle = carried(first, second, one, book)
        last = carried(second, third, other, middle)
        self.assertEqual(whole[0], last[0])
        near = unit(first, second, one, book)
        far = unit(second, third, other, middle)
        columns = []
        for table in tables_by_hand(first, third, both, book):
            column = {}
            for (kind, path, row), height in table.items():
                reached = went(last, path, far[one[0][kind]][near[kind][row]])
                self.assertEqual(column.setdefault(height, reached), reached)
            columns.append(tuple(column[height] for height in range(len(column))))
        self.assertTrue(own_row_each(columns, whole[0]))
        self.assertIs(is_map(third, whole, last, tuple(columns)), True)

    def test_small_forms(self):
        sources, middles, ends = (POINT, TWO, ARROW, PAIR), (POINT, ARROW, PAIR, CHAIN), (POINT, ARROW, TRIANGLE, LINE)
        for forms in itertools.product(sources, middles, ends):
            for one in all_shifts(forms[0], forms[1]):
                for other in all_shifts(forms[1], forms[2]):
                    for book in books_of(forms[0]):
                        with self.subTest(forms=forms, one=one, other=other, book=book):
                            self.check(forms, one, other, book)

    def test_triples_led_over_several_steps(self):
        book = ((3, 2, 2), ((0, 1, 1), (0, 0, 1)))
        for forms in itertools.product((SPREAD,), (ARROW, PAIR, SPREAD), (POINT, PAIR, TRIANGLE)):
            for one in all_shifts(forms[0], forms[1]):
                for other in all_shifts(forms[1], forms[2]):
                    with self.subTest(forms=forms, one=one, other=other):
                        self.check(forms, one, other, book)

    def test_the_most_rows(self):
        book = ((200, 200), (TURNED,))
        self.check((ARROW, CHAIN, LINE), ((0, 2), ((0, 1),)), ((0, 1, 3), ((0,), (1, 2))), book)
        self.check((ARROW, ARROW, POINT), ((0, 1), ((0,),)), ((0, 0), ((),)), book)


class BesideOneAnother(unittest.TestCase):
    def check(self, source, target, shift, one, other):
        both = beside(source, one, other)
        behind = tuple(
            tuple(range(ahead, ahead + height)) for ahead, height in zip(one[0], other[0])
        )
        found = carried(source, target, shift, both)
        heights = [carried(source, target, shift, book)[0] for book in (one, other)]
        self.assertEqual(found[0], tuple(ahead + height for ahead, height in zip(*heights)))
        first = map_on(source, target, shift, one, both, still(one))
        second = map_on(source, target, shift, other, both, behind)
        self.assertTrue(own_row_each([ahead + height for ahead, height in zip(first, second)], found[0]))

    def test_small_books(self):
        for source, target in itertools.product((POINT, TWO, ARROW, PAIR, CHAIN), FORMS):
            for shift in all_shifts(source, target):
                for one, other in itertools.product(books_of(source), repeat=2):
                    with self.subTest(source=source, target=target, shift=shift, one=one, other=other):
                        self.check(source, target, shift, one, other)

    def test_the_most_rows(self):
        half = ((100, 100), (tuple(reversed(range(100))),))
        for target in (POINT, ARROW, CHAIN):
            for shift in all_shifts(ARROW, target):
                self.check(ARROW, target, shift, half, ((100, 100), ((7,) * 100,)))


class MapsInAndOut(unittest.TestCase):
    targets = {
        POINT: (((2,), ()), ((3,), ())),
        ARROW: (((2, 2), ((1, 0),)), ((2, 2), ((1, 1),))),
        PAIR: (((2, 2), ((1, 0), (0, 0))), ((1, 1), ((0,), (0,)))),
        CHAIN: (((2, 2, 1), ((1, 0), (0, 0))), ((1, 2, 2), ((1,), (0, 1)))),
        TRIANGLE: (((2, 1, 2), ((1,), (0, 1), (0, 0))), ((1, 1, 1), ((0,), (0,), (0,)))),
    }
    sources = {
        TWO: (((1, 2), ()), ((2, 1), ())),
        ARROW: (((2, 1), ((0, 0),)), ((2, 2), ((1, 0),)), ((0, 1), ((),))),
        PAIR: (((1, 2), ((1,), (0,))), ((2, 2), ((0, 1), (1, 1)))),
    }

    def every_case(self):
        for source, target in itertools.product(self.sources, self.targets):
            for shift in all_shifts(source, target):
                for book, other in itertools.product(self.sources[source], self.targets[target]):
                    yield (source, target, shift, book, other)

    def test_a_map_out_and_then_a_map_of_the_second_form(self):
        met = 0
        for source, target, shift, book, other in self.every_case():
            charts = maps(source, book, taken_back(source, shift, other))
            for another in self.targets[target]:
                for chart, more in itertools.product(charts, maps(target, other, another)):
                    told = out_of(source, target, shift, book, another, sent(chart, map_back(shift, more)))
                    self.assertEqual(sent(out_of(source, target, shift, book, other, chart), more), told)
                    met += 1
        self.assertGreater(met, 1000)

    def test_a_map_of_the_first_form_carried_on_and_then_a_map_out(self):
        met = 0
        for source, target, shift, book, other in self.every_case():
            charts = maps(source, book, taken_back(source, shift, other))
            for nearer in self.sources[source]:
                for ahead, chart in itertools.product(maps(source, nearer, book), charts):
                    on = map_on(source, target, shift, nearer, book, ahead)
                    told = out_of(source, target, shift, nearer, other, sent(ahead, chart))
                    self.assertEqual(sent(on, out_of(source, target, shift, book, other, chart)), told)
                    met += 1
        self.assertGreater(met, 1000)

    def test_the_unit_out_and_the_map_that_changes_nothing_in(self):
        for source, target in itertools.product(FORMS, repeat=2):
            book = BIGGER[source]
            for shift in all_shifts(source, target):
                found = carried(source, target, shift, book)
                chart = unit(source, target, shift, book)
                self.assertEqual(into(source, target, shift, book, still(found)), chart)
                self.assertEqual(out_of(source, target, shift, book, found, chart), still(found))

    def test_the_unit_and_a_map_carried_on_and_taken_back(self):
        for source, target in itertools.product(self.sources, self.targets):
            for shift in all_shifts(source, target):
                for one, other in itertools.product(self.sources[source], repeat=2):
                    for chart in maps(source, one, other):
                        on = map_on(source, target, shift, one, other, chart)
                        told = sent(unit(source, target, shift, one), map_back(shift, on))
                        self.assertEqual(sent(chart, unit(source, target, shift, other)), told)


if __name__ == "__main__":
    unittest.main()
