"""Maps from a carried book turned into maps from the book itself, and back."""

from formshift.back import map_back
from formshift.books import went
from formshift.maps import sent
from formshift.on import unit
from formshift.triples import first_triples, row_tables


def into(source, target, shift, book, chart):
    return sent(unit(source, target, shift, book), map_back(shift, chart))


def out_of(source, target, shift, book, other, chart):
    columns = []
    for table in row_tables(source, target, shift, book):
        columns.append(tuple([went(other, path, chart[kind][row]) for kind, path, row in first_triples(table)]))
    return tuple(columns)
