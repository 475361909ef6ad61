"""Points 1 and 9 to 11: books and maps carried on along a shift, and the unit of a book."""

import itertools
import unittest

from formshift.back import taken_back
from formshift.books import is_book
from formshift.maps import is_map, maps, sent
from formshift.on import carried, map_on, unit
from formshift.shifts import own_shift
from helping import (
    ARROW, BIGGER, CHAIN, FORMS, LINE, PAIR, POINT, TRIANGLE, TWO, Asking, all_books, all_shifts, books_of,
    names_of_arguments, tables_by_hand,
)

# One kind from which two arrows go, and one to which two arrows lead.
SPREAD = (3, ((0, 1), (0, 2)))
MEET = (3, ((0, 2), (1, 2)))
# The longer path from 0 to 2 is ahead as tuples are, the shorter one by point 3.
ROUNDABOUT = (3, ((0, 1), (1, 2), (0, 2)))
FULL = (4, ((0, 1), (0, 1), (1, 2), (1, 2), (2, 3)))
SIX = (6, ((0, 1), (1, 2), (2, 3), (3, 4), (4, 5), (0, 5)))

STEADY = tuple(range(200))
TURNED = tuple(reversed(range(200)))
ONE_ON = STEADY[1:] + (0,)
ONE_STEP = ((3, 2), ((1, 0, 1),))


def carried_by_hand(source, target, shift, book):
    """The book that is carried on; every triple of a row, not the first alone, has to go where the row goes."""
    tables = tables_by_hand(source, target, shift, book)
    steps = []
    for number, (start, end) in enumerate(target[1]):
        step = {}
        for (kind, path, row), height in tables[start].items():
            reached = tables[end][(kind, path + (number,), row)]
            if step.setdefault(height, reached) != reached:
                raise AssertionError("the triples of a row part")
        steps.append(tuple(step[height] for height in range(len(step))))
    return (tuple(len(set(table.values())) for table in tables), tuple(steps))


def unit_by_hand(source, target, shift, book):
    tables = tables_by_hand(source, target, shift, book)
    return tuple(
        tuple(tables[shift[0][kind]][(kind, (), row)] for row in range(book[0][kind])) for kind in range(source[0])
    )


def every_case():
    for source, target in itertools.product(FORMS, repeat=2):
        for shift in all_shifts(source, target):
            for book in books_of(source):
                yield (source, target, shift, book)


def every_small_case():
    """All books of up to two rows of a kind, where triples are led to one another over several steps."""
    for source, target in itertools.product((ARROW, PAIR, SPREAD, MEET), (POINT, ARROW, PAIR, ROUNDABOUT)):
        for shift in all_shifts(source, target):
            for book in all_books(source, 2):
                yield (source, target, shift, book)


class Carried(Asking):
    def check(self, source, target, shift, book, told):
        self.ask(told, carried, source, target, shift, book)
        self.assertTrue(is_book(target, told))

    def test_kinds_that_no_place_leads_to(self):
        self.check(POINT, ARROW, ((1,), ()), ((3,), ()), ((0, 3), ((),)))
        self.check(POINT, CHAIN, ((1,), ()), ((2,), ()), ((0, 2, 2), ((), (0, 1))))
        self.check(POINT, TWO, ((1,), ()), ((4,), ()), ((0, 4), ()))
        self.check(ARROW, LINE, ((2, 3), ((2,),)), ONE_STEP, ((0, 0, 3, 2), ((), (), (0, 1, 0))))

    def test_rows_that_go_on_by_themselves(self):
        self.check(POINT, ARROW, ((0,), ()), ((3,), ()), ((3, 3), ((0, 1, 2),)))
        self.check(POINT, PAIR, ((0,), ()), ((2,), ()), ((2, 4), ((0, 1), (2, 3))))
        self.check(POINT, POINT, ((0,), ()), ((7,), ()), ((7,), ()))

    def test_two_kinds_with_one_place(self):
        self.check(TWO, POINT, ((0, 0), ()), ((2, 3), ()), ((5,), ()))
        self.check(TWO, ARROW, ((0, 0), ()), ((2, 3), ()), ((5, 5), ((0, 1, 2, 3, 4),)))
        self.check(TWO, PAIR, ((0, 0), ()), ((1, 1), ()), ((2, 4), ((0, 2), (1, 3))))

    def test_triples_are_in_order_by_kind_then_path_then_row(self):
        self.check(TWO, ARROW, ((1, 0), ()), ((2, 3), ()), ((3, 5), ((2, 3, 4),)))
        self.check(TWO, ARROW, ((0, 1), ()), ((2, 3), ()), ((2, 5), ((0, 1),)))
        self.check(TWO, PAIR, ((0, 0), ()), ((2, 1), ()), ((3, 6), ((0, 1, 4), (2, 3, 5))))

    def test_a_path_with_fewer_arrows_is_ahead(self):
        self.check(POINT, ROUNDABOUT, ((0,), ()), ((1,), ()), ((1, 1, 2), ((0,), (1,), (0,))))
        self.check(POINT, ROUNDABOUT, ((0,), ()), ((2,), ()), ((2, 2, 4), ((0, 1), (2, 3), (0, 1))))
        self.check(POINT, TRIANGLE, ((0,), ()), ((2,), ()), ((2, 2, 4), ((2, 3), (0, 1), (0, 1))))

    def test_paths_of_as_many_arrows_are_in_order_as_tuples(self):
        told = ((1, 2, 4, 4), ((0,), (1,), (0, 2), (1, 3), (0, 1, 2, 3)))
        self.check(POINT, FULL, ((0,), ()), ((1,), ()), told)

    def test_ways_of_no_arrows(self):
        self.check(ARROW, POINT, ((0, 0), ((),)), ONE_STEP, ((2,), ()))
        self.check(ARROW, POINT, ((0, 0), ((),)), ((2, 3), ((2, 2),)), ((3,), ()))
        self.check(ARROW, ARROW, ((0, 0), ((),)), ((2, 3), ((2, 2),)), ((3, 3), ((0, 1, 2),)))
        self.check(ARROW, ARROW, ((1, 1), ((),)), ONE_STEP, ((0, 2), ((),)))
        self.check(PAIR, POINT, ((0, 0), ((), ())), ((1, 2), ((0,), (1,))), ((1,), ()))

    def test_ways_of_one_arrow(self):
        self.check(ARROW, ARROW, ((0, 1), ((0,),)), ONE_STEP, ((3, 2), ((0, 1, 0),)))
        self.check(ARROW, CHAIN, ((0, 1), ((0,),)), ONE_STEP, ((3, 2, 2), ((0, 1, 0), (0, 1))))
        self.check(ARROW, CHAIN, ((1, 2), ((1,),)), ONE_STEP, ((0, 3, 2), ((), (0, 1, 0))))
        self.check(ARROW, PAIR, ((0, 1), ((1,),)), ((2, 1), ((0, 0),)), ((2, 3), ((0, 1), (2, 2))))
        self.check(PAIR, ARROW, ((0, 1), ((0,), (0,))), ((1, 3), ((0,), (2,))), ((1, 2), ((0,),)))

    def test_ways_of_several_arrows(self):
        self.check(ARROW, CHAIN, ((0, 2), ((0, 1),)), ONE_STEP, ((3, 3, 2), ((0, 1, 2), (0, 1, 0))))
        self.check(ARROW, LINE, ((0, 3), ((0, 1, 2),)), ONE_STEP, ((3, 3, 3, 2), ((0, 1, 2), (0, 1, 2), (0, 1, 0))))
        told = ((2, 2, 3), ((0, 1), (2, 2), (0, 1)))
        self.check(ARROW, ROUNDABOUT, ((0, 2), ((0, 1),)), ((2, 1), ((0, 0),)), told)

    def test_triples_that_are_led_to_one_another_over_several_steps(self):
        book = ((3, 4), ((0, 1, 2), (1, 2, 3)))
        self.check(PAIR, POINT, ((0, 0), ((), ())), book, ((1,), ()))
        self.check(PAIR, ARROW, ((0, 1), ((0,), (0,))), book, ((3, 1), ((0, 0, 0),)))
        book = ((4, 5), ((0, 2, 1, 4), (2, 1, 0, 3)))
        self.check(PAIR, POINT, ((0, 0), ((), ())), book, ((2,), ()))
        book = ((3, 2, 2), ((0, 1, 1), (0, 0, 1)))
        self.check(SPREAD, POINT, ((0, 0, 0), ((), ())), book, ((1,), ()))
        self.check(SPREAD, ARROW, ((0, 1, 1), ((0,), (0,))), book, ((3, 1), ((0, 0, 0),)))

    def test_kinds_without_rows(self):
        self.check(ARROW, CHAIN, ((0, 2), ((0, 1),)), ((0, 0), ((),)), ((0, 0, 0), ((), ())))
        self.check(ARROW, CHAIN, ((0, 2), ((0, 1),)), ((0, 3), ((),)), ((0, 0, 3), ((), ())))
        self.check(ARROW, ARROW, ((0, 0), ((),)), ((0, 2), ((),)), ((2, 2), ((0, 1),)))
        self.check(TWO, PAIR, ((0, 1), ()), ((1, 0), ()), ((1, 2), ((0,), (1,))))

    def test_every_shift_between_small_forms(self):
        for case in every_case():
            self.check(*case, carried_by_hand(*case))

    def test_every_book_of_up_to_two_rows(self):
        for case in every_small_case():
            self.check(*case, carried_by_hand(*case))

    def test_the_most_rows(self):
        self.check(POINT, POINT, ((0,), ()), ((200,), ()), ((200,), ()))
        self.check(POINT, LINE, ((0,), ()), ((200,), ()), ((200,) * 4, (STEADY,) * 3))
        self.check(ARROW, ARROW, ((0, 1), ((0,),)), ((200, 200), (TURNED,)), ((200, 200), (STEADY,)))
        self.check(ARROW, POINT, ((0, 0), ((),)), ((200, 200), (TURNED,)), ((200,), ()))
        self.check(ARROW, POINT, ((0, 0), ((),)), ((200, 200), ((0,) * 200,)), ((200,), ()))
        self.check(TWO, POINT, ((0, 0), ()), ((100, 100), ()), ((200,), ()))
        self.check(POINT, FULL, ((0,), ()), ((50,), ()), carried_by_hand(POINT, FULL, ((0,), ()), ((50,), ())))

    def test_the_most_rows_led_to_one_another(self):
        self.check(PAIR, POINT, ((0, 0), ((), ())), ((200, 200), (STEADY, ONE_ON)), ((1,), ()))
        self.check(PAIR, POINT, ((0, 0), ((), ())), ((200, 200), (TURNED, ONE_ON)), ((101,), ()))
        self.check(PAIR, ARROW, ((0, 1), ((0,), (0,))), ((200, 200), (ONE_ON, STEADY)), ((200, 1), ((0,) * 200,)))
        self.check(SPREAD, POINT, ((0, 0, 0), ((), ())), ((200,) * 3, (STEADY, ONE_ON)), ((200,), ()))
        book = ((200,) * 4, (STEADY, ONE_ON, STEADY, STEADY, STEADY))
        self.check(FULL, POINT, ((0,) * 4, ((),) * 5), book, ((1,), ()))
        two_places = ((0, 0, 1, 1), ((), (), (0,), (1,), ()))
        two_ends = ((2, 3, 3, 3), ((4,), (4,), (), (), ()))
        for last, shift in itertools.product((STEADY, ONE_ON), (own_shift(FULL), two_places, two_ends)):
            book = ((200,) * 4, (STEADY, TURNED, ONE_ON, STEADY, last))
            self.check(FULL, FULL, shift, book, carried_by_hand(FULL, FULL, shift, book))

    def test_a_book_beyond_the_bounds_is_not_refused(self):
        wide = ((250, 250), (tuple(reversed(range(250))),))
        self.ask(((250, 250), (tuple(range(250)),)), carried, ARROW, ARROW, own_shift(ARROW), wide)
        self.ask(((500,), ()), carried, TWO, POINT, ((0, 0), ()), ((250, 250), ()))
        told = ((150, 300), (tuple(range(150)), tuple(range(150, 300))))
        self.ask(told, carried, POINT, PAIR, ((0,), ()), ((150,), ()))

    def test_forms_beyond_the_bounds_are_not_refused(self):
        told = ((2, 2, 2, 2, 2, 4), ((0, 1), (0, 1), (0, 1), (0, 1), (2, 3), (0, 1)))
        self.check(POINT, SIX, ((0,), ()), ((2,), ()), told)
        book = ((2,) * 6, ((1, 0),) * 6)
        for target, shift in ((SIX, own_shift(SIX)), (POINT, ((0,) * 6, ((),) * 6))):
            self.check(SIX, target, shift, book, carried_by_hand(SIX, target, shift, book))


class Unit(Asking):
    def check(self, source, target, shift, book, told):
        self.ask(told, unit, source, target, shift, book)
        back = taken_back(source, shift, carried(source, target, shift, book))
        self.assertIs(is_map(source, book, back, told), True)

    def test_ordinary_books(self):
        self.check(POINT, PAIR, ((0,), ()), ((3,), ()), ((0, 1, 2),))
        self.check(ARROW, ARROW, ((0, 1), ((0,),)), ONE_STEP, ((0, 1, 2), (1, 0)))
        self.check(ARROW, CHAIN, ((0, 2), ((0, 1),)), ONE_STEP, ((0, 1, 2), (1, 0)))
        self.check(ARROW, CHAIN, ((0, 2), ((0, 1),)), ((1, 3), ((2,),)), ((0,), (1, 2, 0)))

    def test_two_kinds_with_one_place(self):
        self.check(TWO, POINT, ((0, 0), ()), ((2, 3), ()), ((0, 1), (2, 3, 4)))
        self.check(TWO, ARROW, ((1, 0), ()), ((2, 3), ()), ((0, 1), (0, 1, 2)))
        self.check(TWO, ARROW, ((0, 1), ()), ((2, 3), ()), ((0, 1), (2, 3, 4)))

    def test_rows_that_become_one(self):
        self.check(ARROW, POINT, ((0, 0), ((),)), ONE_STEP, ((0, 1, 0), (1, 0)))
        self.check(ARROW, POINT, ((0, 0), ((),)), ((2, 3), ((2, 2),)), ((0, 0), (1, 2, 0)))
        self.check(PAIR, ARROW, ((0, 1), ((0,), (0,))), ((1, 3), ((0,), (2,))), ((0,), (0, 1, 0)))

    def test_no_rows(self):
        self.check(ARROW, CHAIN, ((0, 2), ((0, 1),)), ((0, 0), ((),)), ((), ()))
        self.check(ARROW, ARROW, ((0, 0), ((),)), ((0, 2), ((),)), ((), (0, 1)))

    def test_every_shift_between_small_forms(self):
        for case in every_case():
            self.check(*case, unit_by_hand(*case))

    def test_every_book_of_up_to_two_rows(self):
        for case in every_small_case():
            self.check(*case, unit_by_hand(*case))

    def test_the_most_rows_and_more(self):
        self.check(ARROW, ARROW, own_shift(ARROW), ((200, 200), (TURNED,)), (STEADY, TURNED))
        self.check(PAIR, POINT, ((0, 0), ((), ())), ((200, 200), (STEADY, ONE_ON)), ((0,) * 200, (0,) * 200))
        self.ask((tuple(range(250)), tuple(range(250, 500))), unit, TWO, POINT, ((0, 0), ()), ((250, 250), ()))


class MapOn(Asking):
    def check(self, source, target, shift, one, other, chart):
        """Triple by triple as point 11 tells; and what is told is a map."""
        near = tables_by_hand(source, target, shift, one)
        far = tables_by_hand(source, target, shift, other)
        told = []
        for table, onward in zip(near, far):
            column = {}
            for (kind, path, row), height in table.items():
                reached = onward[(kind, path, chart[kind][row])]
                self.assertEqual(column.setdefault(height, reached), reached)
            told.append(tuple(column[height] for height in range(len(column))))
        self.ask(tuple(told), map_on, source, target, shift, one, other, chart)
        books = [carried(source, target, shift, book) for book in (one, other)]
        self.assertIs(is_map(target, books[0], books[1], tuple(told)), True)

    def test_ordinary_maps(self):
        one, other = ((2,), ()), ((3,), ())
        self.ask(((2, 0), (2, 0)), map_on, POINT, ARROW, ((0,), ()), one, other, ((2, 0),))
        self.ask(((2, 0), (2, 0, 5, 3)), map_on, POINT, PAIR, ((0,), ()), one, other, ((2, 0),))
        self.ask(((), (1, 1)), map_on, POINT, ARROW, ((1,), ()), one, other, ((1, 1),))

    def test_rows_that_become_one(self):
        one, other = ((2, 2), ((0, 1),)), ((2, 3), ((2, 0),))
        chart = ((1, 0), (0, 2))
        self.assertIs(is_map(ARROW, one, other, chart), True)
        self.ask(((1, 0),), map_on, ARROW, POINT, ((0, 0), ((),)), one, other, chart)
        self.ask(((1, 0), (1, 0)), map_on, ARROW, ARROW, ((0, 1), ((0,),)), one, other, chart)
        self.ask(((1, 0), (1, 0), (1, 0)), map_on, ARROW, CHAIN, ((0, 2), ((0, 1),)), one, other, chart)

    def test_no_rows(self):
        empty, other = ((0, 0), ((),)), ((1, 2), ((1,),))
        self.ask(((), (), ()), map_on, ARROW, CHAIN, ((0, 2), ((0, 1),)), empty, other, ((), ()))
        self.ask(((), (), (1,)), map_on, ARROW, CHAIN, ((0, 2), ((0, 1),)), ((0, 1), ((),)), other, ((), (0,)))

    def test_every_map_between_small_books(self):
        for source, target in itertools.product((TWO, ARROW, PAIR), (POINT, ARROW, PAIR, CHAIN, ROUNDABOUT)):
            books = list(all_books(source, 1)) + [((2, 2), ((1, 0), (0, 0))[:len(source[1])])]
            for shift in all_shifts(source, target):
                for one, other in itertools.product(books, repeat=2):
                    for chart in maps(source, one, other):
                        self.check(source, target, shift, one, other, chart)

    def test_every_map_where_triples_are_led_over_several_steps(self):
        one = ((2, 2, 2), ((0, 1), (1, 1)))
        other = ((3, 2, 2), ((0, 1, 1), (0, 0, 1)))
        for target in (POINT, ARROW, ROUNDABOUT):
            for shift in all_shifts(SPREAD, target):
                for near, far in itertools.product((one, other), repeat=2):
                    charts = maps(SPREAD, near, far)
                    self.assertNotEqual(charts, [])
                    for chart in charts:
                        self.check(SPREAD, target, shift, near, far, chart)

    def test_one_map_and_then_another(self):
        one, two, three = ((2, 1), ((0, 0),)), ((3, 2), ((1, 0, 1),)), ((2, 2), ((1, 1),))
        for target in (POINT, PAIR, CHAIN, ROUNDABOUT):
            for shift in all_shifts(ARROW, target):
                for chart, more in itertools.product(maps(ARROW, one, two), maps(ARROW, two, three)):
                    near = map_on(ARROW, target, shift, one, two, chart)
                    far = map_on(ARROW, target, shift, two, three, more)
                    self.ask(sent(near, far), map_on, ARROW, target, shift, one, three, sent(chart, more))

    def test_the_map_that_changes_nothing(self):
        for source, target in itertools.product(FORMS, repeat=2):
            book = BIGGER[source]
            still = tuple(tuple(range(height)) for height in book[0])
            for shift in all_shifts(source, target):
                told = tuple(tuple(range(height)) for height in carried(source, target, shift, book)[0])
                self.ask(told, map_on, source, target, shift, book, book, still)

    def test_the_most_rows_and_more(self):
        book = ((200, 200), (STEADY,))
        told = (ONE_ON, ONE_ON)
        self.ask(told, map_on, ARROW, ARROW, own_shift(ARROW), book, book, told)
        self.ask((ONE_ON,), map_on, ARROW, POINT, ((0, 0), ((),)), book, book, told)
        self.check(ARROW, CHAIN, ((0, 2), ((0, 1),)), book, ((200, 1), ((0,) * 200,)), (TURNED, (0,) * 200))
        turned = tuple(reversed(range(250)))
        self.ask((turned, turned), map_on, POINT, ARROW, ((0,), ()), ((250,), ()), ((250,), ()), (turned,))


class Interface(unittest.TestCase):
    def test_names_of_the_arguments(self):
        told = (
            (carried, ["source", "target", "shift", "book"]),
            (unit, ["source", "target", "shift", "book"]),
            (map_on, ["source", "target", "shift", "one", "other", "chart"]),
        )
        for asked, names in told:
            self.assertEqual(names_of_arguments(asked), names)


if __name__ == "__main__":
    unittest.main()
