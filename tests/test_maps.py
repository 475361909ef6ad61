"""Points 1 and 6: what a map is, the maps told in order, when they are refused, and maps one behind the other."""

import copy
import itertools
import unittest

from formshift.errors import NotRead, ShiftError, TooWide
from formshift.maps import is_map, maps, sent
from helping import Asking, all_books, all_charts, changed, names_of_arguments, only_whole_numbers_in_tuples

ONE_KIND = (1, ())
TWO_KINDS = (2, ())
THREE_KINDS = (3, ())
FOUR_KINDS = (4, ())
ARROW = (2, ((0, 1),))
PAIR = (2, ((0, 1), (0, 1)))
CHAIN = (3, ((0, 1), (1, 2)))
TRIANGLE = (3, ((1, 2), (0, 2), (0, 1)))

ONE = ((2, 1), ((0, 0),))
OTHER = ((3, 2), ((0, 0, 1),))
SHORT = ((2, 2, 1), ((0, 1), (0, 0)))
LONG = ((3, 3, 2), ((0, 1, 2), (0, 0, 1)))
TRIANGLE_ONE = ((2, 2, 2), ((0, 1), (1, 0), (0, 1)))
TRIANGLE_OTHER = ((3, 2, 3), ((2, 0), (0, 1, 2), (0, 0, 1)))
PAIRS = ((ARROW, ONE, OTHER), (CHAIN, SHORT, LONG), (TRIANGLE, TRIANGLE_ONE, TRIANGLE_OTHER))


def sends_alike(form, one, other, chart):
    """Sent and then gone is gone and then sent: row by row as point 6 tells."""
    for number, (start, end) in enumerate(form[1]):
        for row in range(one[0][start]):
            if other[1][number][chart[start][row]] != chart[end][one[1][number][row]]:
                return False
    return True


def all_maps(form, one, other):
    return [chart for chart in all_charts(one, other) if sends_alike(form, one, other, chart)]


def with_row(chart, kind, place, row):
    return changed(chart, kind, changed(chart[kind], place, row))


def rows_alone(rows):
    return (tuple(rows), ())


def charts_that_send(one, other):
    """All charts between two books, each row near the bounds of the other book's rows, too."""
    for kind, height in enumerate(other[0]):
        for chart in all_charts(one, other):
            for place in range(one[0][kind]):
                for row in range(-height - 1, height + 2):
                    yield with_row(chart, kind, place, row)


class IsMap(Asking):
    def check(self, form, one, other, chart, told):
        self.ask_whether(told, is_map, form, one, other, chart)

    def test_ordinary_maps(self):
        self.check(ARROW, ONE, OTHER, ((0, 1), (0,)), True)
        self.check(ARROW, ONE, OTHER, ((2, 2), (1,)), True)
        self.check(CHAIN, SHORT, LONG, ((0, 1), (0, 1), (0,)), True)
        self.check(CHAIN, SHORT, LONG, ((2, 2), (2, 2), (1,)), True)
        self.check(TWO_KINDS, rows_alone((2, 1)), rows_alone((1, 3)), ((0, 0), (2,)), True)

    def test_a_book_to_itself(self):
        for form, one, other in PAIRS:
            for book in (one, other):
                self.check(form, book, book, tuple(tuple(range(height)) for height in book[0]), True)

    def test_one_row_put_one_further(self):
        self.check(ARROW, ONE, OTHER, ((1, 1), (0,)), True)
        self.check(ARROW, ONE, OTHER, ((0, 2), (0,)), False)
        self.check(ARROW, ONE, OTHER, ((2, 0), (0,)), False)
        self.check(ARROW, ONE, OTHER, ((0, 1), (1,)), False)
        self.check(CHAIN, SHORT, LONG, ((1, 1), (0, 1), (0,)), False)
        self.check(CHAIN, SHORT, LONG, ((0, 1), (1, 1), (0,)), False)
        self.check(CHAIN, SHORT, LONG, ((0, 1), (0, 2), (0,)), False)
        self.check(CHAIN, SHORT, LONG, ((0, 1), (0, 1), (1,)), False)

    def test_a_row_left_out_or_one_too_many(self):
        for form, one, other in PAIRS:
            for chart in all_maps(form, one, other):
                for kind, column in enumerate(chart):
                    self.check(form, one, other, changed(chart, kind, column[:-1]), False)
                    self.check(form, one, other, changed(chart, kind, column[1:]), False)
                    self.check(form, one, other, changed(chart, kind, ()), False)
                    self.check(form, one, other, changed(chart, kind, column + (0,)), False)
                    self.check(form, one, other, changed(chart, kind, column + column[-1:]), False)

    def test_a_row_of_a_kind_without_arrows_left_out_or_too_many(self):
        self.check(ONE_KIND, rows_alone((2,)), rows_alone((2,)), ((0,),), False)
        self.check(ONE_KIND, rows_alone((2,)), rows_alone((2,)), ((0, 0, 0),), False)
        self.check(ONE_KIND, rows_alone((0,)), rows_alone((2,)), ((0,),), False)

    def test_a_kind_too_many_or_too_few(self):
        for form, one, other in PAIRS:
            for chart in all_maps(form, one, other):
                self.check(form, one, other, chart[:-1], False)
                self.check(form, one, other, chart[1:], False)
                self.check(form, one, other, (), False)
                self.check(form, one, other, chart + ((),), False)
                self.check(form, one, other, chart + ((0,),), False)
                self.check(form, one, other, chart + chart[-1:], False)
        self.check(ONE_KIND, rows_alone((0,)), rows_alone((0,)), (), False)
        self.check(ONE_KIND, rows_alone((0,)), rows_alone((0,)), ((), ()), False)
        self.check(TWO_KINDS, rows_alone((1, 0)), rows_alone((1, 0)), ((0,),), False)
        self.check(TWO_KINDS, rows_alone((1, 0)), rows_alone((1, 0)), ((0,), (), ()), False)

    def test_a_row_below_nought(self):
        # Counted from the end, these rows would go as they should.
        self.check(ARROW, ((1, 1), ((0,),)), ((2, 2), ((0, 1),)), ((-1,), (1,)), False)
        self.check(ARROW, ((1, 1), ((0,),)), ((2, 2), ((0, 1),)), ((-2,), (0,)), False)
        self.check(CHAIN, SHORT, LONG, ((-3, -2), (0, 1), (0,)), False)
        self.check(CHAIN, ((0, 1, 1), ((), (0,))), LONG, ((), (-1,), (1,)), False)
        self.check(ONE_KIND, rows_alone((1,)), rows_alone((3,)), ((-1,),), False)
        self.check(ONE_KIND, rows_alone((2,)), rows_alone((3,)), ((0, -3),), False)
        self.check(ARROW, ((0, 1), ((),)), ((1, 1), ((0,),)), ((), (-1,)), False)

    def test_a_row_beyond(self):
        self.check(ONE_KIND, rows_alone((1,)), rows_alone((3,)), ((2,),), True)
        self.check(ONE_KIND, rows_alone((1,)), rows_alone((3,)), ((3,),), False)
        self.check(ONE_KIND, rows_alone((1,)), rows_alone((0,)), ((0,),), False)
        self.check(ARROW, ((0, 1), ((),)), ((1, 1), ((0,),)), ((), (1,)), False)
        self.check(ARROW, ONE, OTHER, ((3, 3), (1,)), False)
        self.check(ARROW, ONE, OTHER, ((0, 1), (2,)), False)

    def test_no_rows(self):
        empty = ((0, 0), ((),))
        self.check(ARROW, empty, empty, ((), ()), True)
        self.check(ARROW, empty, OTHER, ((), ()), True)
        self.check(ARROW, ((0, 1), ((),)), OTHER, ((), (1,)), True)
        self.check(ARROW, ONE, empty, ((), ()), False)
        self.check(ARROW, ONE, empty, ((0, 0), (0,)), False)

    def test_each_arrow_counts(self):
        one = ((1, 1), ((0,), (0,)))
        other = ((2, 2), ((0, 1), (0, 0)))
        self.check(PAIR, one, other, ((0,), (0,)), True)
        self.check(PAIR, one, other, ((1,), (1,)), False)
        self.check(PAIR, one, other, ((1,), (0,)), False)
        self.check(PAIR, one, ((2, 2), ((0, 0), (0, 1))), ((1,), (0,)), False)

    def test_every_chart_near_the_bounds(self):
        for form, one, other in PAIRS:
            told = dict.fromkeys(all_maps(form, one, other), True)
            for chart in charts_that_send(one, other):
                self.check(form, one, other, chart, chart in told)

    def test_books_beyond_the_bounds_are_not_refused(self):
        wide = ((250, 250), (tuple(range(250)),))
        self.check(ARROW, wide, wide, (tuple(range(250)), tuple(range(250))), True)
        self.check(ARROW, wide, wide, (tuple(range(250)), tuple(range(249)) + (248,)), False)
        self.check(ARROW, ((1, 1), ((0,),)), wide, ((249,), (249,)), True)
        form = (5, ((0, 4),) * 6)
        book = ((1, 0, 0, 0, 1), ((0,),) * 6)
        self.check(form, book, book, ((0,), (), (), (), (0,)), True)
        self.check(form, book, book, ((0,), (), (), ()), False)


class Maps(unittest.TestCase):
    def check(self, form, one, other, told):
        with self.subTest(form=form, one=one, other=other):
            before = copy.deepcopy((form, one, other))
            found = maps(form, one, other)
            self.assertIs(type(found), list)
            self.assertEqual(found, told)
            self.assertTrue(all(only_whole_numbers_in_tuples(chart) for chart in found))
            self.assertEqual((form, one, other), before)

    def test_ordinary_books(self):
        self.check(ARROW, ONE, OTHER, [
            ((0, 0), (0,)), ((0, 1), (0,)), ((1, 0), (0,)), ((1, 1), (0,)), ((2, 2), (1,)),
        ])
        self.check(ARROW, OTHER, ONE, [
            ((0, 0, 0), (0, 0)), ((0, 0, 1), (0, 0)), ((0, 1, 0), (0, 0)), ((0, 1, 1), (0, 0)),
            ((1, 0, 0), (0, 0)), ((1, 0, 1), (0, 0)), ((1, 1, 0), (0, 0)), ((1, 1, 1), (0, 0)),
        ])
        self.check(PAIR, ((1, 2), ((0,), (1,))), ((2, 2), ((0, 1), (1, 1))), [((0,), (0, 1)), ((1,), (1, 1))])
        self.check(CHAIN, SHORT, LONG, [
            ((0, 0), (0, 0), (0,)), ((0, 1), (0, 1), (0,)), ((1, 0), (1, 0), (0,)), ((1, 1), (1, 1), (0,)),
            ((2, 2), (2, 2), (1,)),
        ])

    def test_in_order_the_first_kind_ahead(self):
        self.check(TWO_KINDS, rows_alone((1, 1)), rows_alone((2, 2)), [
            ((0,), (0,)), ((0,), (1,)), ((1,), (0,)), ((1,), (1,)),
        ])
        self.check(ONE_KIND, rows_alone((2,)), rows_alone((3,)), [
            ((0, 0),), ((0, 1),), ((0, 2),), ((1, 0),), ((1, 1),), ((1, 2),), ((2, 0),), ((2, 1),), ((2, 2),),
        ])
        self.check(ARROW, ((1, 1), ((0,),)), ((3, 3), ((2, 1, 0),)), [((0,), (2,)), ((1,), (1,)), ((2,), (0,))])

    def test_rows_are_in_order_as_numbers(self):
        self.check(ONE_KIND, rows_alone((1,)), rows_alone((12,)), [((row,),) for row in range(12)])

    def test_none_at_all(self):
        self.check(PAIR, ((1, 1), ((0,), (0,))), ((1, 2), ((0,), (1,))), [])
        self.check(ARROW, ONE, ((0, 2), ((),)), [])
        self.check(ARROW, ONE, ((0, 0), ((),)), [])
        self.check(ONE_KIND, rows_alone((1,)), rows_alone((0,)), [])
        self.check(TWO_KINDS, rows_alone((1, 1)), rows_alone((0, 5)), [])
        self.check(TWO_KINDS, rows_alone((1, 1)), rows_alone((5, 0)), [])

    def test_the_one_has_no_rows_of_some_kind(self):
        one = ((0, 2), ((),))
        both = [((), (0, 0)), ((), (0, 1)), ((), (1, 0)), ((), (1, 1))]
        self.check(ARROW, one, OTHER, both)
        self.check(ARROW, one, ((0, 2), ((),)), both)
        self.check(TWO_KINDS, rows_alone((1, 0)), rows_alone((2, 3)), [((0,), ()), ((1,), ())])
        self.check(TWO_KINDS, rows_alone((1, 0)), rows_alone((2, 0)), [((0,), ()), ((1,), ())])

    def test_the_one_has_no_rows_of_any_kind(self):
        self.check(ONE_KIND, rows_alone((0,)), rows_alone((0,)), [((),)])
        self.check(ONE_KIND, rows_alone((0,)), rows_alone((200,)), [((),)])
        self.check(FOUR_KINDS, rows_alone((0,) * 4), rows_alone((200,) * 4), [((), (), (), ())])
        for form, one, other in PAIRS:
            empty = ((0,) * form[0], ((),) * len(form[1]))
            for book in (empty, one, other):
                self.check(form, empty, book, [((),) * form[0]])

    def test_just_one(self):
        single = ((1, 1), ((0,),))
        self.check(ARROW, OTHER, single, [((0, 0, 0), (0, 0))])
        self.check(ARROW, single, single, [((0,), (0,))])
        self.check(PAIR, ((1, 2), ((0,), (1,))), ((1, 2), ((1,), (0,))), [((0,), (1, 0))])

    def test_many_rows_to_a_single_one(self):
        one = ((200, 200), (tuple(reversed(range(200))),))
        self.check(ARROW, one, ((1, 1), ((0,),)), [((0,) * 200, (0,) * 200)])

    def test_every_pair_of_small_books(self):
        for form, most in ((ONE_KIND, 3), (ARROW, 2), (PAIR, 2), (CHAIN, 2), (TRIANGLE, 1)):
            books = list(all_books(form, most))
            for one, other in itertools.product(books, repeat=2):
                self.check(form, one, other, all_maps(form, one, other))

    def test_larger_books(self):
        for form, one, other in PAIRS:
            for first, second in ((one, one), (one, other), (other, one)):
                self.check(form, first, second, all_maps(form, first, second))

    def test_each_of_them_is_a_map(self):
        for form, one, other in PAIRS:
            for chart in maps(form, one, other):
                self.assertIs(is_map(form, one, other, chart), True)

    def test_the_list_is_the_askers_own(self):
        for one, other in ((ONE, OTHER), (ONE, ((0, 0), ((),))), (((0, 0), ((),)), OTHER)):
            first = maps(ARROW, one, other)
            kept = list(first)
            first.append(((9, 9), (9,)))
            first.reverse()
            self.assertEqual(maps(ARROW, one, other), kept)
            first.clear()
            self.assertEqual(maps(ARROW, one, other), kept)

    def test_books_beyond_the_bounds_are_not_refused(self):
        self.check(ONE_KIND, rows_alone((1,)), rows_alone((250,)), [((row,),) for row in range(250)])
        self.check(ONE_KIND, rows_alone((250,)), rows_alone((1,)), [((0,) * 250,)])
        self.check(ONE_KIND, rows_alone((0,)), rows_alone((250,)), [((),)])
        form = (5, ((0, 4),) * 6)
        self.check(form, ((1, 0, 0, 0, 1), ((0,),) * 6), ((1, 0, 0, 0, 2), ((1,),) * 6), [((0,), (), (), (), (1,))])


class Refused(unittest.TestCase):
    def check(self, form, one, other):
        with self.subTest(form=form, one=one, other=other):
            before = copy.deepcopy((form, one, other))
            for error in (TooWide, ShiftError, ValueError):
                with self.assertRaises(error) as caught:
                    maps(form, one, other)
                self.assertIs(type(caught.exception), TooWide)
                self.assertNotIsInstance(caught.exception, NotRead)
            self.assertEqual((form, one, other), before)

    def told(self, form, one, other, count):
        with self.subTest(form=form, one=one, other=other):
            found = maps(form, one, other)
            self.assertEqual(len(found), count)
            self.assertEqual(found, sorted(found))

    def test_just_2000(self):
        self.told(TWO_KINDS, rows_alone((1, 1)), rows_alone((200, 10)), 2000)
        self.told(FOUR_KINDS, rows_alone((1, 1, 1, 1)), rows_alone((10, 10, 2, 10)), 2000)
        self.told(TWO_KINDS, rows_alone((4, 3)), rows_alone((2, 5)), 2000)
        self.told(THREE_KINDS, rows_alone((4, 0, 3)), rows_alone((2, 0, 5)), 2000)
        self.told(ONE_KIND, rows_alone((1,)), rows_alone((2000,)), 2000)
        self.assertEqual(maps(TWO_KINDS, rows_alone((4, 3)), rows_alone((2, 5))),
                         all_charts(rows_alone((4, 3)), rows_alone((2, 5))))

    def test_just_2000_of_which_few_are_maps(self):
        other = ((200, 10), (tuple(row // 20 for row in range(200)),))
        self.told(ARROW, ((1, 1), ((0,),)), other, 200)
        self.told(PAIR, ((1, 1), ((0,), (0,))), ((200, 10), ((0,) * 200, (1,) * 200)), 0)

    def test_just_2001(self):
        for heights in itertools.permutations((3, 23, 29)):
            self.check(THREE_KINDS, rows_alone((1, 1, 1)), rows_alone(heights))
        self.check(FOUR_KINDS, rows_alone((1, 1, 1, 0)), rows_alone((3, 23, 29, 0)))
        self.check(TWO_KINDS, rows_alone((1, 1)), rows_alone((69, 29)))
        self.check(ONE_KIND, rows_alone((1,)), rows_alone((2001,)))

    def test_around_2000(self):
        self.told(ONE_KIND, rows_alone((10,)), rows_alone((2,)), 1024)
        self.check(ONE_KIND, rows_alone((11,)), rows_alone((2,)))
        self.told(ONE_KIND, rows_alone((2,)), rows_alone((44,)), 1936)
        self.check(ONE_KIND, rows_alone((2,)), rows_alone((45,)))
        self.told(ONE_KIND, rows_alone((3,)), rows_alone((12,)), 1728)
        self.check(ONE_KIND, rows_alone((3,)), rows_alone((13,)))
        self.told(THREE_KINDS, rows_alone((1, 1, 1)), rows_alone((2, 27, 37)), 1998)
        self.check(FOUR_KINDS, rows_alone((1, 1, 1, 1)), rows_alone((2, 7, 11, 13)))

    def test_far_more(self):
        self.check(ONE_KIND, rows_alone((200,)), rows_alone((2,)))
        self.check(ONE_KIND, rows_alone((200,)), rows_alone((200,)))
        self.check(FOUR_KINDS, rows_alone((200,) * 4), rows_alone((200,) * 4))
        self.check(ONE_KIND, rows_alone((250,)), rows_alone((250,)))

    def test_refused_at_whichever_kind(self):
        for place in range(4):
            lengths = changed((0, 0, 0, 0), place, 11)
            heights = changed((0, 0, 0, 0), place, 2)
            self.check(FOUR_KINDS, rows_alone(lengths), rows_alone(heights))
            lengths = changed((1, 1, 1, 1), place, 11)
            heights = changed((1, 1, 1, 1), place, 2)
            self.check(FOUR_KINDS, rows_alone(lengths), rows_alone(heights))

    def test_refused_however_few_are_maps(self):
        one = ((1, 1, 1), ((0,), (0,)))
        form = (3, ((0, 1), (0, 1)))
        self.check(form, one, ((3, 23, 29), ((0,) * 3, (1,) * 3)))
        line = ((200, 200), (tuple(range(200)),))
        self.check(ARROW, ((1, 1), ((0,),)), line)

    def test_no_tuples_at_all_however_many_rows_the_other_kinds_have(self):
        for place in range(3):
            for height in (1, 2, 200):
                lengths = changed((200, 200, 200), place, 1)
                heights = changed((height,) * 3, place, 0)
                self.told(THREE_KINDS, rows_alone(lengths), rows_alone(heights), 0)
        self.told((3, ((0, 1),)), ((3, 3, 1), ((0, 1, 2),)), ((9, 9, 0), (tuple(range(9)),)), 0)


class Sent(Asking):
    def check(self, chart, more, told):
        self.ask(told, sent, chart, more)

    def test_ordinary_charts(self):
        self.check(((1, 0), (2,)), ((5, 6), (7, 8, 9)), ((6, 5), (9,)))
        self.check(((1, 2, 0),), ((1, 0, 2),), ((0, 2, 1),))
        self.check(((1, 0, 2),), ((1, 2, 0),), ((2, 1, 0),))

    def test_no_rows(self):
        self.check(((),), ((),), ((),))
        self.check(((), ()), ((3, 1), ()), ((), ()))
        self.check(((), (0, 0)), ((), (4,)), ((), (4, 4)))

    def test_a_map_to_the_same_rows_changes_nothing(self):
        chart = ((2, 0, 2), (1,), ())
        self.check(chart, ((0, 1, 2), (0, 1), (0, 1, 2)), chart)
        self.check(((0, 1, 2), (0,), ()), chart, chart)

    def test_rows_beyond_the_bounds_are_not_refused(self):
        turned = tuple(reversed(range(250)))
        self.check((turned,), (turned,), (tuple(range(250)),))

    def test_maps_one_behind_the_other(self):
        for form, one, other in PAIRS:
            for first, second, third in itertools.product((one, other), repeat=3):
                for chart in all_maps(form, first, second):
                    for more in all_maps(form, second, third):
                        told = tuple(
                            tuple(more[kind][chart[kind][row]] for row in range(first[0][kind]))
                            for kind in range(form[0])
                        )
                        self.check(chart, more, told)
                        self.assertIs(is_map(form, first, third, sent(chart, more)), True)


class Interface(unittest.TestCase):
    def test_names_of_the_arguments(self):
        told = (
            (is_map, ["form", "one", "other", "chart"]),
            (maps, ["form", "one", "other"]),
            (sent, ["chart", "more"]),
        )
        for asked, names in told:
            self.assertEqual(names_of_arguments(asked), names)


if __name__ == "__main__":
    unittest.main()
