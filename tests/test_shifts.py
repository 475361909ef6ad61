"""Points 1 and 7: what a shift is, a form's own shift, and two shifts one behind the other."""

import itertools
import unittest

from formshift.shifts import is_shift, joined, own_shift
from helping import (
    ARROW, CHAIN, FORMS, LINE, PAIR, POINT, TRIANGLE, TWO, Asking, all_paths, all_shifts, changed, names_of_arguments,
)

MIXED = (4, ((2, 3), (0, 1), (1, 3), (0, 3), (1, 2)))
BEYOND = (6, ((0, 1), (1, 2), (2, 3), (3, 4), (4, 5), (0, 5), (0, 5)))


def is_one(source, target, shift):
    """A shift as point 7 tells it: each place is there, and each way is one of all paths between its places."""
    places, ways = shift
    if len(places) != source[0] or len(ways) != len(source[1]) or not set(places) <= set(range(target[0])):
        return False
    return all(
        way in all_paths(target, places[start], places[end]) for (start, end), way in zip(source[1], ways)
    )


def tuples_near(size, most):
    """Tuples of up to so many numbers, below nought and beyond what is there too."""
    numbers = range(-size - 1, size + 2)
    return [way for length in range(most + 1) for way in itertools.product(numbers, repeat=length)]


class IsShift(Asking):
    def check(self, source, target, shift, told):
        self.ask_whether(told, is_shift, source, target, shift)

    def test_ways_of_no_arrows(self):
        for place in range(3):
            self.check(ARROW, CHAIN, ((place, place), ((),)), True)
            self.check(PAIR, CHAIN, ((place, place), ((), ())), True)
        self.check(ARROW, POINT, ((0, 0), ((),)), True)
        self.check(ARROW, CHAIN, ((0, 1), ((),)), False)
        self.check(ARROW, CHAIN, ((1, 0), ((),)), False)
        self.check(ARROW, TWO, ((0, 1), ((),)), False)

    def test_ways_of_one_arrow(self):
        self.check(ARROW, CHAIN, ((0, 1), ((0,),)), True)
        self.check(ARROW, CHAIN, ((1, 2), ((1,),)), True)
        self.check(PAIR, ARROW, ((0, 1), ((0,), (0,))), True)
        self.check(PAIR, PAIR, ((0, 1), ((1,), (0,))), True)
        self.check(ARROW, MIXED, ((0, 3), ((3,),)), True)

    def test_ways_of_several_arrows(self):
        self.check(ARROW, CHAIN, ((0, 2), ((0, 1),)), True)
        self.check(ARROW, LINE, ((0, 3), ((0, 1, 2),)), True)
        self.check(ARROW, MIXED, ((0, 3), ((1, 2),)), True)
        self.check(ARROW, MIXED, ((0, 3), ((1, 4, 0),)), True)
        self.check(CHAIN, LINE, ((0, 1, 3), ((0,), (1, 2))), True)
        self.check(TRIANGLE, LINE, ((0, 1, 3), ((1, 2), (0, 1, 2), (0,))), True)

    def test_forms_without_arrows(self):
        self.check(POINT, POINT, ((0,), ()), True)
        self.check(POINT, MIXED, ((3,), ()), True)
        self.check(TWO, MIXED, ((3, 0), ()), True)
        self.check(TWO, MIXED, ((2, 2), ()), True)

    def test_a_place_that_is_not_there(self):
        self.check(POINT, POINT, ((1,), ()), False)
        self.check(POINT, MIXED, ((4,), ()), False)
        self.check(TWO, MIXED, ((0, 4), ()), False)
        self.check(TWO, MIXED, ((4, 0), ()), False)
        self.check(ARROW, CHAIN, ((3, 3), ((),)), False)
        self.check(ARROW, CHAIN, ((2, 3), ((),)), False)

    def test_a_place_below_nought(self):
        self.check(POINT, POINT, ((-1,), ()), False)
        self.check(TWO, MIXED, ((0, -1), ()), False)
        self.check(TWO, MIXED, ((-4, 0), ()), False)
        self.check(ARROW, CHAIN, ((-1, -1), ((),)), False)
        self.check(ARROW, CHAIN, ((0, -2), ((0,),)), False)

    def test_a_place_too_many_or_too_few(self):
        self.check(POINT, POINT, ((), ()), False)
        self.check(POINT, POINT, ((0, 0), ()), False)
        self.check(TWO, MIXED, ((0,), ()), False)
        self.check(TWO, MIXED, ((0, 1, 2), ()), False)
        for places in ((), (0,), (0, 1, 2), (0, 1, 1), (0, 1, 0, 1)):
            self.check(ARROW, CHAIN, (places, ((0,),)), False)

    def test_a_way_missing_or_too_many(self):
        self.check(POINT, CHAIN, ((0,), ((),)), False)
        self.check(POINT, CHAIN, ((0,), ((0,),)), False)
        self.check(ARROW, CHAIN, ((0, 1), ()), False)
        self.check(ARROW, CHAIN, ((0, 0), ()), False)
        self.check(ARROW, CHAIN, ((0, 1), ((0,), ())), False)
        self.check(ARROW, CHAIN, ((0, 1), ((0,), (0,))), False)
        self.check(PAIR, CHAIN, ((0, 1), ((0,),)), False)
        self.check(CHAIN, LINE, ((0, 1, 3), ((0,),)), False)
        self.check(CHAIN, LINE, ((0, 1, 3), ((1, 2),)), False)

    def test_a_way_that_is_another_path(self):
        self.check(ARROW, CHAIN, ((0, 2), ((0,),)), False)
        self.check(ARROW, CHAIN, ((0, 2), ((1,),)), False)
        self.check(ARROW, CHAIN, ((0, 1), ((0, 1),)), False)
        self.check(ARROW, CHAIN, ((1, 2), ((0, 1),)), False)
        self.check(ARROW, CHAIN, ((0, 0), ((0,),)), False)
        self.check(CHAIN, LINE, ((0, 1, 3), ((1, 2), (0,))), False)
        self.check(TRIANGLE, LINE, ((0, 1, 3), ((0, 1, 2), (1, 2), (0,))), False)

    def test_a_way_turned_about(self):
        self.check(ARROW, CHAIN, ((1, 0), ((0,),)), False)
        self.check(ARROW, CHAIN, ((2, 0), ((0, 1),)), False)
        self.check(ARROW, CHAIN, ((2, 0), ((1, 0),)), False)

    def test_a_way_that_is_no_path(self):
        self.check(ARROW, CHAIN, ((0, 2), ((1, 0),)), False)
        self.check(ARROW, CHAIN, ((0, 1), ((0, 0),)), False)
        self.check(ARROW, LINE, ((0, 3), ((0, 2),)), False)
        self.check(ARROW, LINE, ((0, 3), ((0, 1, 1, 2),)), False)
        self.check(ARROW, PAIR, ((0, 1), ((0, 1),)), False)

    def test_a_way_by_an_arrow_that_is_not_there(self):
        self.check(ARROW, CHAIN, ((0, 1), ((2,),)), False)
        self.check(ARROW, CHAIN, ((0, 1), ((0, 2),)), False)
        self.check(ARROW, POINT, ((0, 0), ((0,),)), False)

    def test_a_way_by_an_arrow_below_nought(self):
        # Counted from the end, these arrows would lead as they should.
        self.check(ARROW, CHAIN, ((1, 2), ((-1,),)), False)
        self.check(ARROW, CHAIN, ((0, 1), ((-2,),)), False)
        self.check(ARROW, CHAIN, ((0, 2), ((0, -1),)), False)
        self.check(ARROW, CHAIN, ((0, 2), ((-2, 1),)), False)

    def test_a_wrong_way_at_each_arrow(self):
        right = ((0, 1, 2), ((0,), (1,), (2,)))
        self.check(TRIANGLE, TRIANGLE, right, True)
        for number in range(3):
            for wrong in ((), (number, number), (number - 1,), (3,), (-1,)):
                self.check(TRIANGLE, TRIANGLE, (right[0], changed(right[1], number, wrong)), False)

    def test_everything_near_the_bounds(self):
        for source, target in itertools.product((POINT, TWO, ARROW), (POINT, ARROW, PAIR, CHAIN, TRIANGLE)):
            ways = tuples_near(len(target[1]), 2)
            for places in itertools.product(range(-target[0] - 1, target[0] + 2), repeat=source[0]):
                for tried in itertools.product(ways, repeat=len(source[1])):
                    shift = (places, tried)
                    self.check(source, target, shift, is_one(source, target, shift))

    def test_every_shift_there_is(self):
        for source, target in itertools.product(FORMS, FORMS + (MIXED,)):
            for shift in all_shifts(source, target):
                self.check(source, target, shift, True)

    def test_forms_beyond_the_bounds_are_not_refused(self):
        self.check(ARROW, BEYOND, ((0, 5), ((0, 1, 2, 3, 4),)), True)
        self.check(ARROW, BEYOND, ((0, 5), ((6,),)), True)
        self.check(ARROW, BEYOND, ((0, 5), ((0, 1, 2, 3),)), False)
        self.check(BEYOND, ARROW, ((0, 0, 0, 1, 1, 1), ((), (), (0,), (), (), (0,), (0,))), True)
        self.check(BEYOND, ARROW, ((0, 0, 0, 1, 1, 1), ((), (), (0,), (), (), (0,), ())), False)


class OwnShift(Asking):
    def check(self, form, told):
        self.ask(told, own_shift, form)

    def test_each_kind_and_each_arrow_by_itself(self):
        self.check(POINT, ((0,), ()))
        self.check((4, ()), ((0, 1, 2, 3), ()))
        self.check(ARROW, ((0, 1), ((0,),)))
        self.check(PAIR, ((0, 1), ((0,), (1,))))
        self.check(TRIANGLE, ((0, 1, 2), ((0,), (1,), (2,))))
        self.check(MIXED, ((0, 1, 2, 3), ((0,), (1,), (2,), (3,), (4,))))

    def test_it_is_a_shift(self):
        for form in FORMS + (MIXED, BEYOND):
            self.assertIs(is_shift(form, form, own_shift(form)), True)

    def test_a_form_beyond_the_bounds_is_not_refused(self):
        self.check(BEYOND, ((0, 1, 2, 3, 4, 5), ((0,), (1,), (2,), (3,), (4,), (5,), (6,))))


class Joined(Asking):
    def check(self, one, other, told):
        self.ask(told, joined, one, other)

    def test_places_by_both(self):
        self.check(((2, 0), ()), ((3, 1, 1), ((), ())), ((1, 3), ()))
        self.check(((1, 1), ()), ((3, 0), ()), ((0, 0), ()))
        self.check(((0,), ()), ((0,), ()), ((0,), ()))

    def test_ways_along_ways(self):
        self.check(((0, 2), ((0, 1),)), ((0, 1, 3), ((0,), (1, 2))), ((0, 3), ((0, 1, 2),)))
        self.check(((0, 1), ((0,),)), ((0, 3), ((1, 4, 0),)), ((0, 3), ((1, 4, 0),)))
        self.check(((0, 1), ((1,), (0,))), ((0, 3), ((3,), (1, 2))), ((0, 3), ((1, 2), (3,))))
        self.check(((0, 1), ((1,), (1,))), ((0, 3), ((3,), (1, 2))), ((0, 3), ((1, 2), (1, 2))))

    def test_ways_of_no_arrows(self):
        self.check(((1, 1), ((),)), ((0, 2), ((0, 1),)), ((2, 2), ((),)))
        self.check(((0, 1), ((0,),)), ((2, 2), ((),)), ((2, 2), ((),)))
        self.check(((0, 2), ((0, 1),)), ((1, 1, 2), ((), (1,))), ((1, 2), ((1,),)))
        self.check(((0, 2), ((0, 1),)), ((0, 1, 1), ((0,), ())), ((0, 1), ((0,),)))
        self.check(((0, 2), ((0, 1),)), ((0, 0, 0), ((), ())), ((0, 0), ((),)))
        self.check(((0, 1, 1), ((0,), ())), ((0, 3), ((0, 1, 2),)), ((0, 3, 3), ((0, 1, 2), ())))

    def test_the_own_shifts_change_nothing(self):
        for source, target in itertools.product(FORMS, FORMS + (MIXED,)):
            for shift in all_shifts(source, target):
                self.check(own_shift(source), shift, shift)
                self.check(shift, own_shift(target), shift)

    def test_each_two_are_a_shift_arrow_by_arrow(self):
        for first, second, third in itertools.product((TWO, ARROW, PAIR, CHAIN), (ARROW, PAIR, CHAIN), FORMS[2:]):
            for one, other in itertools.product(all_shifts(first, second), list(all_shifts(second, third))):
                places = tuple(other[0][one[0][kind]] for kind in range(first[0]))
                ways = tuple(tuple(far for near in way for far in other[1][near]) for way in one[1])
                self.check(one, other, (places, ways))
                self.assertIs(is_shift(first, third, (places, ways)), True)

    def test_three_one_behind_the_other(self):
        for one in all_shifts(ARROW, CHAIN):
            for other in all_shifts(CHAIN, TRIANGLE):
                for last in all_shifts(TRIANGLE, LINE):
                    self.assertEqual(joined(joined(one, other), last), joined(one, joined(other, last)))

    def test_forms_beyond_the_bounds_are_not_refused(self):
        one = ((0, 5), ((0, 1, 2, 3, 4),))
        other = ((0, 0, 0, 1, 1, 1), ((), (), (0,), (), (), (0,), (0,)))
        self.check(one, other, ((0, 1), ((0,),)))
        self.check(own_shift(BEYOND), own_shift(BEYOND), own_shift(BEYOND))


class Interface(unittest.TestCase):
    def test_names_of_the_arguments(self):
        told = ((is_shift, ["source", "target", "shift"]), (own_shift, ["form"]), (joined, ["one", "other"]))
        for asked, names in told:
            self.assertEqual(names_of_arguments(asked), names)


if __name__ == "__main__":
    unittest.main()
