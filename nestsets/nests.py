"""Nests: the one form in which each set is told, and their order."""


def is_nest(thing):
    if not isinstance(thing, tuple):
        return False
    # The order is told of nests alone, so the members are asked first.
    if not all([is_nest(member) for member in thing]):
        return False
    return is_rising(thing)


def is_rising(row):
    return all([is_less(row[place - 1], row[place]) for place in range(1, len(row))])


def is_less(one, other):
    return mirrored(one) < mirrored(other)


# The greatest nest that only one of two has as a member tells which is greater.
# With the greatest members first, at every depth, it stands where the two first
# differ, so that Python's own order of tuples is the order of nests.
def mirrored(one):
    return tuple([mirrored(member) for member in reversed(one)])


def nest(some):
    return gathered(some)


# A second name for what nest does: a file whose defs have a parameter called
# nest can't draw in a def of that name.
def gathered(some):
    members = {}
    for member in some:
        members[member] = True
    return tuple(sorted(members, key=mirrored))
