"""Points 1 to 3: what a form is, what a path is, and the order of paths."""

import copy
import itertools
import unittest

from formshift.forms import end_of, is_form, paths
from helping import Asking, all_paths, names_of_arguments

ONE_KIND = (1, ())
NO_ARROW = (4, ())
CHAIN = (4, ((0, 1), (1, 2), (2, 3)))
TWINS = (3, ((0, 1), (0, 1), (1, 2)))
# The arrows stand so that the order of kinds and the order of arrows differ.
MIXED = (4, ((2, 3), (0, 1), (1, 3), (0, 3), (1, 2)))
FULL = (4, ((0, 1), (0, 1), (1, 2), (1, 2), (2, 3)))
BEYOND = (6, ((4, 5), (0, 1), (1, 2), (2, 3), (3, 4), (0, 5), (1, 4), (4, 5)))
FORMS = (ONE_KIND, NO_ARROW, CHAIN, TWINS, MIXED, FULL, BEYOND)


class IsForm(Asking):
    def check(self, form, told):
        self.ask_whether(told, is_form, form)

    def test_ordinary_forms(self):
        self.check((2, ((0, 1),)), True)
        self.check((3, ((0, 2), (1, 2))), True)
        self.check(CHAIN, True)
        self.check(MIXED, True)

    def test_forms_at_the_edges(self):
        self.check(ONE_KIND, True)
        self.check((2, ()), True)
        self.check((3, ()), True)
        self.check(NO_ARROW, True)
        self.check(FULL, True)
        self.check((4, ((0, 3), (2, 3))), True)

    def test_the_same_arrow_more_than_once(self):
        self.check(TWINS, True)
        self.check((2, ((0, 1),) * 5), True)

    def test_too_few_and_too_many_kinds(self):
        for kinds in (-4, -2, -1, 0, 5, 6, 50):
            self.check((kinds, ()), False)
        self.check((5, ((0, 1),)), False)
        self.check((5, ((3, 4),)), False)
        self.check((0, ((0, 1),)), False)
        self.check((-1, ((0, 1),)), False)

    def test_too_many_arrows(self):
        self.check((2, ((0, 1),) * 6), False)
        self.check((4, ((0, 1), (0, 2), (0, 3), (1, 2), (1, 3), (2, 3))), False)
        self.check((4, ((0, 1),) * 20), False)

    def test_an_arrow_turned_about(self):
        self.check((2, ((1, 0),)), False)
        self.check((4, ((3, 0),)), False)
        self.check((3, ((0, 1), (2, 1))), False)

    def test_an_arrow_from_a_kind_to_itself(self):
        self.check((1, ((0, 0),)), False)
        self.check((4, ((3, 3),)), False)
        self.check((3, ((0, 1), (1, 1), (1, 2))), False)

    def test_an_arrow_of_a_kind_that_is_not_there(self):
        self.check((1, ((0, 1),)), False)
        self.check((3, ((0, 3),)), False)
        self.check((3, ((2, 3),)), False)
        self.check((3, ((3, 4),)), False)
        self.check((4, ((0, 1), (4, 5))), False)
        self.check((4, ((0, 1), (1, 4))), False)

    def test_an_arrow_of_a_kind_below_nought(self):
        self.check((3, ((-1, 0),)), False)
        self.check((3, ((-1, 2),)), False)
        self.check((3, ((-2, -1),)), False)
        self.check((3, ((0, -1),)), False)
        self.check((3, ((1, -2),)), False)

    def test_a_wrong_arrow_at_each_place(self):
        for place in range(5):
            for wrong in ((1, 0), (2, 2), (-1, 2), (2, 4)):
                arrows = [(0, 1)] * 5
                arrows[place] = wrong
                self.check((4, tuple(arrows)), False)

    def test_every_single_arrow_near_the_bounds(self):
        for kinds in range(-2, 8):
            for start, end in itertools.product(range(-3, 8), repeat=2):
                told = kinds in (1, 2, 3, 4) and start >= 0 and end > start and end <= kinds - 1
                self.check((kinds, ((start, end),)), told)


class EndOf(unittest.TestCase):
    def test_the_path_of_no_arrow_leads_to_the_kind_itself(self):
        for form in FORMS:
            for kind in range(form[0]):
                with self.subTest(form=form, kind=kind):
                    self.assertEqual(end_of(form, kind, ()), kind)

    def test_paths_of_one_and_several_arrows(self):
        self.assertEqual(end_of(CHAIN, 0, (0,)), 1)
        self.assertEqual(end_of(CHAIN, 1, (1,)), 2)
        self.assertEqual(end_of(CHAIN, 0, (0, 1)), 2)
        self.assertEqual(end_of(CHAIN, 0, (0, 1, 2)), 3)
        self.assertEqual(end_of(TWINS, 0, (1,)), 1)
        self.assertEqual(end_of(MIXED, 0, (1, 4)), 2)
        self.assertEqual(end_of(MIXED, 0, (1, 4, 0)), 3)
        self.assertEqual(end_of(MIXED, 0, (3,)), 3)

    def test_a_form_beyond_the_bounds_is_not_refused(self):
        self.assertEqual(end_of(BEYOND, 0, (1, 2, 3, 4)), 4)
        self.assertEqual(end_of(BEYOND, 0, (1, 6, 7)), 5)

    def test_each_path_leads_where_it_was_asked_for(self):
        for form in FORMS:
            before = copy.deepcopy(form)
            for kind, other in itertools.product(range(form[0]), repeat=2):
                for path in all_paths(form, kind, other):
                    with self.subTest(form=form, kind=kind, path=path):
                        kept = copy.deepcopy(path)
                        self.assertEqual(end_of(form, kind, path), other)
                        self.assertEqual(path, kept)
            self.assertEqual(form, before)


class Paths(unittest.TestCase):
    def test_from_a_kind_to_itself(self):
        for form in FORMS:
            for kind in range(form[0]):
                with self.subTest(form=form, kind=kind):
                    self.assertEqual(paths(form, kind, kind), [()])

    def test_none_at_all(self):
        self.assertEqual(paths(NO_ARROW, 0, 1), [])
        self.assertEqual(paths(NO_ARROW, 3, 0), [])
        self.assertEqual(paths(CHAIN, 3, 0), [])
        self.assertEqual(paths(CHAIN, 2, 1), [])
        self.assertEqual(paths((3, ((0, 2), (1, 2))), 0, 1), [])

    def test_one_path(self):
        self.assertEqual(paths(CHAIN, 0, 1), [(0,)])
        self.assertEqual(paths(CHAIN, 1, 3), [(1, 2)])
        self.assertEqual(paths(CHAIN, 0, 3), [(0, 1, 2)])

    def test_arrows_side_by_side(self):
        self.assertEqual(paths(TWINS, 0, 1), [(0,), (1,)])
        self.assertEqual(paths(TWINS, 0, 2), [(0, 2), (1, 2)])
        self.assertEqual(paths(FULL, 0, 3), [(0, 2, 4), (0, 3, 4), (1, 2, 4), (1, 3, 4)])
        self.assertEqual(paths((2, ((0, 1),) * 5), 0, 1), [(0,), (1,), (2,), (3,), (4,)])

    def test_fewer_arrows_ahead(self):
        self.assertEqual(paths(MIXED, 0, 3), [(3,), (1, 2), (1, 4, 0)])
        self.assertEqual(paths(MIXED, 1, 3), [(2,), (4, 0)])

    def test_then_as_tuples_are(self):
        form = (4, ((2, 3), (1, 3), (0, 2), (0, 1), (2, 3)))
        self.assertEqual(paths(form, 0, 3), [(2, 0), (2, 4), (3, 1)])

    def test_every_form_of_up_to_three_arrows(self):
        pairs = list(itertools.combinations(range(4), 2))
        for size in range(4):
            for arrows in itertools.product(pairs, repeat=size):
                self.check_all((4, arrows))

    def test_forms_of_more_arrows_and_beyond_the_bounds(self):
        for arrows in itertools.permutations(((0, 1), (1, 2), (2, 3), (0, 2), (1, 3))):
            self.check_all((4, arrows))
        for form in FORMS[:-1]:
            self.check_all(form)

    def check_all(self, form):
        for kind, other in itertools.product(range(form[0]), repeat=2):
            with self.subTest(form=form, kind=kind, other=other):
                self.assertEqual(paths(form, kind, other), all_paths(form, kind, other))

    def test_a_form_beyond_the_bounds_is_not_refused(self):
        told = [(5,), (1, 6, 0), (1, 6, 7), (1, 2, 3, 4, 0), (1, 2, 3, 4, 7)]
        self.assertEqual(paths(BEYOND, 0, 5), told)
        self.assertEqual(paths((2, ((0, 1),) * 12), 0, 1), [(number,) for number in range(12)])

    def test_a_list_of_tuples_of_whole_numbers(self):
        for form in FORMS:
            for kind, other in itertools.product(range(form[0]), repeat=2):
                told = paths(form, kind, other)
                self.assertIs(type(told), list)
                for path in told:
                    self.assertIs(type(path), tuple)
                    self.assertEqual([type(arrow) for arrow in path], [int] * len(path))

    def test_the_list_is_the_askers_own(self):
        for kind, other in ((0, 0), (0, 3), (3, 0)):
            first = paths(MIXED, kind, other)
            kept = list(first)
            first.append((9, 9))
            first.reverse()
            self.assertEqual(paths(MIXED, kind, other), kept)
            first.clear()
            self.assertEqual(paths(MIXED, kind, other), kept)

    def test_what_is_handed_in_is_the_same_afterwards(self):
        for form in FORMS:
            before = copy.deepcopy(form)
            for kind, other in itertools.product(range(form[0]), repeat=2):
                paths(form, kind, other)
            self.assertEqual(form, before)


class Interface(unittest.TestCase):
    def test_names_of_the_arguments(self):
        for asked, names in ((is_form, ["form"]), (end_of, ["form", "kind", "path"]), (paths, ["form", "kind", "other"])):
            self.assertEqual(names_of_arguments(asked), names)


if __name__ == "__main__":
    unittest.main()
