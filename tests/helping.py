"""What several test files need: values changed at one place, and answers found by trying everything."""

import copy
import functools
import inspect
import itertools
import unittest

POINT = (1, ())
TWO = (2, ())
ARROW = (2, ((0, 1),))
PAIR = (2, ((0, 1), (0, 1)))
CHAIN = (3, ((0, 1), (1, 2)))
TRIANGLE = (3, ((1, 2), (0, 2), (0, 1)))
LINE = (4, ((0, 1), (1, 2), (2, 3)))
FORMS = (POINT, TWO, ARROW, PAIR, CHAIN, TRIANGLE, LINE)

CHAIN_BOOK = ((3, 2, 4), ((1, 0, 1), (3, 2)))
TRIANGLE_BOOK = ((2, 3, 4), ((3, 0, 2), (1, 3), (2, 0)))
LINE_BOOK = ((2, 3, 2, 4), ((2, 0), (1, 0, 0), (3, 1)))
BIGGER = {
    POINT: ((5,), ()), TWO: ((4, 2), ()), ARROW: ((3, 2), ((1, 0, 1),)), PAIR: ((3, 2), ((1, 0, 1), (0, 0, 1))),
    CHAIN: CHAIN_BOOK, TRIANGLE: TRIANGLE_BOOK, LINE: LINE_BOOK,
}


class Asking(unittest.TestCase):
    def ask_whether(self, told, asked, *given):
        """Told is True or False, and the answer is that very one; what is handed in is the same afterwards."""
        with self.subTest(asked=asked.__name__, given=given):
            before = copy.deepcopy(given)
            self.assertIs(asked(*given), told)
            self.assertEqual(given, before)

    def ask(self, told, asked, *given):
        """The answer is what is told, whole numbers in tuples; what is handed in is the same afterwards."""
        with self.subTest(asked=asked.__name__, given=given):
            before = copy.deepcopy(given)
            found = asked(*given)
            self.assertEqual(found, told)
            self.assertTrue(only_whole_numbers_in_tuples(found))
            self.assertEqual(given, before)


def changed(whole, place, part):
    return whole[:place] + (part,) + whole[place + 1:]


def only_whole_numbers_in_tuples(value):
    if type(value) is tuple:
        return all(only_whole_numbers_in_tuples(part) for part in value)
    return type(value) is int


def names_of_arguments(asked):
    return list(inspect.signature(asked).parameters)


def chained(form, kind, other, path):
    """Whether path is one from kind to other, arrow by arrow as point 3 tells."""
    for arrow in path:
        start, end = form[1][arrow]
        if start != kind:
            return False
        kind = end
    return kind == other


@functools.cache
def all_paths(form, kind, other):
    """Every tuple of arrows tried, and the order of point 3 by sorting."""
    numbers = range(len(form[1]))
    tried = [path for size in range(form[0]) for path in itertools.product(numbers, repeat=size)]
    return sorted([path for path in tried if chained(form, kind, other, path)], key=lambda path: (len(path), path))


def all_books(form, most):
    """Every book of the form with at most so many rows of a kind."""
    for rows in itertools.product(range(most + 1), repeat=form[0]):
        tried = [itertools.product(range(rows[end]), repeat=rows[start]) for start, end in form[1]]
        for steps in itertools.product(*tried):
            yield (rows, steps)


def books_of(form):
    """Every book of the form with at most one row of a kind, and one with more."""
    return list(all_books(form, 1)) + [BIGGER[form]]


def all_charts(one, other):
    """Every tuple of rows that there could be, in order."""
    tried = [itertools.product(range(height), repeat=length) for length, height in zip(one[0], other[0])]
    return list(itertools.product(*tried))


def all_shifts(source, target):
    """Every shift from source to target: all places, and for each arrow all paths between its places."""
    for places in itertools.product(range(target[0]), repeat=source[0]):
        tried = [all_paths(target, places[start], places[end]) for start, end in source[1]]
        for ways in itertools.product(*tried):
            yield (places, ways)


def triples_of(source, target, shift, book, kind):
    """The triples of one kind of the second form, in the order of point 9."""
    return [
        (near, path, row)
        for near in range(source[0])
        for path in all_paths(target, shift[0][near], kind)
        for row in range(book[0][near])
    ]


def one_row_triples(source, target, shift, book, kind):
    """Of each triple those that point 9 ties to it in one step."""
    beside = {triple: [] for triple in triples_of(source, target, shift, book, kind)}
    for (start, end), way, step in zip(source[1], shift[1], book[1]):
        for path in all_paths(target, shift[0][end], kind):
            for row in range(book[0][start]):
                one, other = (start, way + path, row), (end, path, step[row])
                beside[one].append(other)
                beside[other].append(one)
    return beside


def rows_by_hand(source, target, shift, book, kind):
    """Of each triple of a kind the number of its row: from each first triple, all that it is led to, one by one."""
    beside = one_row_triples(source, target, shift, book, kind)
    numbers = {}
    height = 0
    for first in beside:
        if first not in numbers:
            waiting = [first]
            while waiting:
                triple = waiting.pop()
                if triple not in numbers:
                    numbers[triple] = height
                    waiting.extend(beside[triple])
            height += 1
    return {triple: numbers[triple] for triple in beside}


def tables_by_hand(source, target, shift, book):
    return [rows_by_hand(source, target, shift, book, kind) for kind in range(target[0])]
