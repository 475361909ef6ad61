"""Books and maps carried on along a shift, and the unit of a book."""

from formshift.triples import first_triples, row_tables


def carried(source, target, shift, book):
    tables = row_tables(source, target, shift, book)
    firsts = [first_triples(table) for table in tables]
    steps = []
    for number, arrow in enumerate(target[1]):
        onward = tables[arrow[1]]
        steps.append(tuple([onward[(kind, path + (number,), row)] for kind, path, row in firsts[arrow[0]]]))
    return (tuple([len(triples) for triples in firsts]), tuple(steps))


def unit(source, target, shift, book):
    tables = row_tables(source, target, shift, book)
    columns = []
    for kind, place in enumerate(shift[0]):
        columns.append(tuple([tables[place][(kind, (), row)] for row in range(book[0][kind])]))
    return tuple(columns)


def map_on(source, target, shift, one, other, chart):
    columns = []
    tables = row_tables(source, target, shift, one)
    for table, onward in zip(tables, row_tables(source, target, shift, other)):
        columns.append(tuple([onward[(kind, path, chart[kind][row])] for kind, path, row in first_triples(table)]))
    return tuple(columns)
