"""What several test files need: values changed at one place, and answers found by trying everything."""

import copy
import inspect
import itertools
import unittest


class Asking(unittest.TestCase):
    def ask_whether(self, told, asked, *given):
        """Told is True or False, and the answer is that very one; what is handed in is the same afterwards."""
        with self.subTest(asked=asked.__name__, given=given):
            before = copy.deepcopy(given)
            self.assertIs(asked(*given), told)
            self.assertEqual(given, before)

    def ask(self, told, asked, *given):
        """The answer is what is told, whole numbers in tuples; what is handed in is the same afterwards."""
        with self.subTest(asked=asked.__name__, given=given):
            before = copy.deepcopy(given)
            found = asked(*given)
            self.assertEqual(found, told)
            self.assertTrue(only_whole_numbers_in_tuples(found))
            self.assertEqual(given, before)


def changed(whole, place, part):
    return whole[:place] + (part,) + whole[place + 1:]


def only_whole_numbers_in_tuples(value):
    if type(value) is tuple:
        return all(only_whole_numbers_in_tuples(part) for part in value)
    return type(value) is int


def names_of_arguments(asked):
    return list(inspect.signature(asked).parameters)


def chained(form, kind, other, path):
    """Whether path is one from kind to other, arrow by arrow as point 3 tells."""
    for arrow in path:
        start, end = form[1][arrow]
        if start != kind:
            return False
        kind = end
    return kind == other


def all_paths(form, kind, other):
    """Every tuple of arrows tried, and the order of point 3 by sorting."""
    numbers = range(len(form[1]))
    tried = [path for size in range(form[0]) for path in itertools.product(numbers, repeat=size)]
    return sorted([path for path in tried if chained(form, kind, other, path)], key=lambda path: (len(path), path))


def all_books(form, most):
    """Every book of the form with at most so many rows of a kind."""
    for rows in itertools.product(range(most + 1), repeat=form[0]):
        tried = [itertools.product(range(rows[end]), repeat=rows[start]) for start, end in form[1]]
        for steps in itertools.product(*tried):
            yield (rows, steps)


def all_charts(one, other):
    """Every tuple of rows that there could be, in order."""
    tried = [itertools.product(range(height), repeat=length) for length, height in zip(one[0], other[0])]
    return list(itertools.product(*tried))


def all_shifts(source, target):
    """Every shift from source to target: all places, and for each arrow all paths between its places."""
    for places in itertools.product(range(target[0]), repeat=source[0]):
        tried = [all_paths(target, places[start], places[end]) for start, end in source[1]]
        for ways in itertools.product(*tried):
            yield (places, ways)
