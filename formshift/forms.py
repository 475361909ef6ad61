"""Forms, the paths along their arrows, and the order of paths."""

MOST_KINDS = 4
MOST_ARROWS = 5


def is_form(form):
    kinds = form[0]
    arrows = form[1]
    if kinds < 1 or kinds > MOST_KINDS or len(arrows) > MOST_ARROWS:
        return False
    return all([0 <= a < b < kinds for a, b in arrows])


def end_of(form, kind, path):
    if len(path) == 0:
        return kind
    last = form[1][path[-1]]
    return last[1]


# Every arrow leads to a later kind, so the paths of some length are none and the loop ends.
# Paths that are lengthened in order, by arrows in order, stay in order: nothing is to be sorted.
def paths(form, kind, other):
    found = []
    reached = [()]
    while len(reached) > 0:
        found.extend([path for path in reached if end_of(form, kind, path) == other])
        reached = lengthened(form, kind, reached)
    return found


def lengthened(form, kind, reached):
    longer = []
    for path in reached:
        end = end_of(form, kind, path)
        longer.extend([path + (number,) for number, arrow in enumerate(form[1]) if arrow[0] == end])
    return longer
