"""Points 1 and 12: the map into what is taken back, the map out of a carried book; each undoes the other."""

import itertools
import unittest

from formshift.back import taken_back
from formshift.errors import TooWide
from formshift.maps import is_map, maps
from formshift.on import carried
from formshift.shifts import own_shift
from formshift.turn import into, out_of
from helping import (
    ARROW, CHAIN, PAIR, POINT, TRIANGLE, TWO, Asking, all_books, all_shifts, names_of_arguments, tables_by_hand,
)

SPREAD = (3, ((0, 1), (0, 2)))
STEADY = tuple(range(200))
TURNED = tuple(reversed(range(200)))

OTHERS = {
    POINT: [((0,), ()), ((1,), ()), ((3,), ())],
    TWO: [((0, 2), ()), ((2, 1), ())],
    ARROW: [((0, 1), ((),)), ((2, 2), ((1, 0),)), ((2, 2), ((1, 1),)), ((3, 2), ((1, 0, 1),))],
    PAIR: [((1, 1), ((0,), (0,))), ((2, 2), ((1, 0), (0, 0))), ((2, 3), ((2, 0), (1, 0)))],
    CHAIN: [((1, 1, 2), ((0,), (1,))), ((2, 2, 2), ((1, 0), (1, 1))), ((2, 2, 2), ((0, 0), (1, 0)))],
    TRIANGLE: [((1, 1, 2), ((1,), (0,), (0,))), ((2, 2, 2), ((1, 0), (0, 1), (1, 1)))],
}
NEAR = {
    TWO: list(all_books(TWO, 1)) + [((2, 1), ())],
    ARROW: list(all_books(ARROW, 2)),
    PAIR: list(all_books(PAIR, 1)) + [((2, 2), ((0, 1), (1, 1))), ((1, 2), ((1,), (0,)))],
    SPREAD: list(all_books(SPREAD, 1)) + [((2, 2, 1), ((0, 1), (0, 0))), ((2, 2, 2), ((1, 0), (0, 0)))],
}


def every_case():
    for source, target in itertools.product(NEAR, OTHERS):
        for shift in all_shifts(source, target):
            for book, other in itertools.product(NEAR[source], OTHERS[target]):
                yield (source, target, shift, book, other)


def maps_or_none(form, one, other):
    try:
        return maps(form, one, other)
    except TooWide:
        return None


def went_by_hand(book, path, row):
    for arrow in path:
        row = book[1][arrow][row]
    return row


class Turned(Asking):
    def check_into(self, source, target, shift, book, other, chart):
        """Row by row: where the map from the carried book sends the row of (c, (), x)."""
        tables = tables_by_hand(source, target, shift, book)
        told = tuple(
            tuple(chart[place][tables[place][(kind, (), row)]] for row in range(book[0][kind]))
            for kind, place in enumerate(shift[0])
        )
        self.ask(told, into, source, target, shift, book, chart)
        self.assertIs(is_map(source, book, taken_back(source, shift, other), told), True)
        self.ask(chart, out_of, source, target, shift, book, other, told)
        return told

    def check_out(self, source, target, shift, book, other, chart):
        """Triple by triple: where, in the other book, the row that x is sent to comes along p."""
        told = []
        for table in tables_by_hand(source, target, shift, book):
            column = {}
            for (kind, path, row), height in table.items():
                reached = went_by_hand(other, path, chart[kind][row])
                self.assertEqual(column.setdefault(height, reached), reached)
            told.append(tuple(column[height] for height in range(len(column))))
        told = tuple(told)
        self.ask(told, out_of, source, target, shift, book, other, chart)
        self.assertIs(is_map(target, carried(source, target, shift, book), other, told), True)
        self.ask(chart, into, source, target, shift, book, told)
        return told

    def test_into_by_hand(self):
        self.ask(((2, 0),), into, POINT, ARROW, ((0,), ()), ((2,), ()), ((2, 0), (1, 1)))
        self.ask(((1, 1),), into, POINT, ARROW, ((1,), ()), ((2,), ()), ((), (1, 1)))
        self.ask(((4, 7, 4), (7, 4)), into, ARROW, POINT, ((0, 0), ((),)), ((3, 2), ((1, 0, 1),)), ((4, 7),))
        self.ask(((0, 1, 0), (9, 5)), into, ARROW, ARROW, own_shift(ARROW), ((3, 2), ((1, 0, 1),)), ((0, 1, 0), (5, 9)))

    def test_out_by_hand(self):
        self.ask(((2, 0), (1, 3)), out_of, POINT, ARROW, ((0,), ()), ((2,), ()), ((3, 4), ((3, 0, 1),)), ((2, 0),))
        other = ((3, 4), ((3, 0, 1), (2, 2, 0)))
        self.ask(((2, 0), (1, 3, 0, 2)), out_of, POINT, PAIR, ((0,), ()), ((2,), ()), other, ((2, 0),))
        self.ask(((), (1, 1)), out_of, POINT, ARROW, ((1,), ()), ((2,), ()), ((0, 2), ((),)), ((1, 1),))
        book = ((3, 2), ((1, 0, 1),))
        self.ask(((4, 7),), out_of, ARROW, POINT, ((0, 0), ((),)), book, ((8,), ()), ((4, 7, 4), (7, 4)))
        other = ((2, 3, 3), ((1, 2), (2, 1, 0)))
        chart = ((0, 1, 0), (0, 1))
        self.ask(((0, 1, 0), (1, 2, 1), (1, 0)), out_of, ARROW, CHAIN, ((0, 2), ((0, 1),)), book, other, chart)

    def test_no_rows(self):
        self.ask(((), ()), into, ARROW, CHAIN, ((0, 2), ((0, 1),)), ((0, 0), ((),)), ((), (), ()))
        other = ((1, 1, 1), ((0,), (0,)))
        self.ask(((), (), ()), out_of, ARROW, CHAIN, ((0, 2), ((0, 1),)), ((0, 0), ((),)), other, ((), ()))

    def test_each_undoes_the_other_and_they_are_as_many(self):
        met = 0
        for source, target, shift, book, other in every_case():
            far = maps_or_none(target, carried(source, target, shift, book), other)
            near = maps_or_none(source, book, taken_back(source, shift, other))
            if far is not None and near is not None:
                met += len(far)
                self.assertEqual(len(far), len(near))
                made = [self.check_into(source, target, shift, book, other, chart) for chart in far]
                self.assertEqual(sorted(made), near)
                made = [self.check_out(source, target, shift, book, other, chart) for chart in near]
                self.assertEqual(sorted(made), far)
        self.assertGreater(met, 5000)

    def test_the_most_rows(self):
        book, other = ((200, 200), (TURNED,)), ((200, 200, 200), (TURNED, STEADY))
        shift = ((0, 2), ((0, 1),))
        told = self.check_out(ARROW, CHAIN, shift, book, other, (STEADY, STEADY))
        self.assertEqual(told, (STEADY, TURNED, TURNED))
        self.check_into(ARROW, CHAIN, shift, book, other, told)
        book = ((200, 200), (STEADY, STEADY[1:] + (0,)))
        told = self.check_out(PAIR, POINT, ((0, 0), ((), ())), book, ((200,), ()), ((199,) * 200,) * 2)
        self.assertEqual(told, ((199,),))

    def test_books_and_forms_beyond_the_bounds_are_not_refused(self):
        turned = tuple(reversed(range(250)))
        book, other = ((250,), ()), ((250, 250), (turned,))
        self.check_out(POINT, ARROW, ((0,), ()), book, other, (turned,))
        self.check_into(POINT, ARROW, ((0,), ()), book, other, (turned, tuple(range(250))))
        six = (6, ((0, 1), (1, 2), (2, 3), (3, 4), (4, 5), (0, 5)))
        other = ((2,) * 6, ((1, 0),) * 6)
        self.check_out(POINT, six, ((0,), ()), ((2,), ()), other, ((1, 0),))
        self.check_out(six, six, own_shift(six), other, other, ((0, 1), (0, 1), (0, 1), (0, 1), (0, 1), (0, 1)))


class Interface(unittest.TestCase):
    def test_names_of_the_arguments(self):
        self.assertEqual(names_of_arguments(into), ["source", "target", "shift", "book", "chart"])
        self.assertEqual(names_of_arguments(out_of), ["source", "target", "shift", "book", "other", "chart"])


if __name__ == "__main__":
    unittest.main()
