"""Shifts from a form to another one, a form's own shift, and shifts one behind the other."""


def is_shift(source, target, shift):
    places = shift[0]
    ways = shift[1]
    if len(places) != source[0] or len(ways) != len(source[1]):
        return False
    if not all([0 <= place < target[0] for place in places]):
        return False
    return all([leads(target, places[arrow[0]], way, places[arrow[1]]) for arrow, way in zip(source[1], ways)])


def leads(form, kind, way, other):
    for number in way:
        # A number below nought would pick an arrow from the end.
        if not 0 <= number < len(form[1]):
            return False
        arrow = form[1][number]
        if arrow[0] != kind:
            return False
        kind = arrow[1]
    return kind == other


def own_shift(form):
    return (tuple(range(form[0])), tuple([(number,) for number in range(len(form[1]))]))


def joined(one, other):
    places = tuple([other[0][place] for place in one[0]])
    return (places, tuple([way_along(other, way) for way in one[1]]))


def way_along(shift, path):
    way = ()
    for arrow in path:
        way = way + shift[1][arrow]
    return way
