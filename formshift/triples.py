"""The triples of a book that is carried on along a shift, and the row that each of them is."""

from formshift.forms import paths


# One dict for each kind of the target, its keys the triples in their order, its values the rows that they are.
def row_tables(source, target, shift, book):
    tables = []
    for kind in range(target[0]):
        routes = [paths(target, place, kind) for place in shift[0]]
        triples = triples_along(routes, book)
        tables.append(numbered(triples, tied(source, shift, book, routes, triples)))
    return tables


def triples_along(routes, book):
    triples = []
    for kind, route in enumerate(routes):
        for path in route:
            triples.extend([(kind, path, row) for row in range(book[0][kind])])
    return triples


def tied(source, shift, book, routes, triples):
    spots = {}
    for spot, triple in enumerate(triples):
        spots[triple] = spot
    heads = list(range(len(triples)))
    for arrow, way, step in zip(source[1], shift[1], book[1]):
        for path in routes[arrow[1]]:
            for row, reached in enumerate(step):
                tie(heads, spots[(arrow[0], way + path, row)], spots[(arrow[1], path, reached)])
    return heads


# The earlier triple always becomes the head, so that the head of all that are one row is the first of them.
def tie(heads, one, other):
    first = head_of(heads, one)
    second = head_of(heads, other)
    heads[max(first, second)] = min(first, second)


def head_of(heads, spot):
    while heads[spot] != spot:
        # Halving the way to the head keeps it short, however many triples are led to one another.
        heads[spot] = heads[heads[spot]]
        spot = heads[spot]
    return spot


def numbered(triples, heads):
    rows = []
    height = 0
    for spot in range(len(triples)):
        head = head_of(heads, spot)
        if head == spot:
            rows.append(height)
            height = height + 1
        else:
            rows.append(rows[head])
    return dict(zip(triples, rows))


# Rows are numbered in the order of their first triples, so each first one bears the next number.
def first_triples(table):
    firsts = []
    for triple, row in table.items():
        if row == len(firsts):
            firsts.append(triple)
    return firsts
