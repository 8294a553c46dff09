"""Pairs, and the products and maps that are made of them."""

from nestsets.errors import NoPair
from nestsets.nests import gathered


def pair(one, other):
    return gathered(((one,), gathered((one, other))))


def is_pair(nest):
    if len(nest) == 2:
        # The nest with one part alone is less than that with both.
        alone = nest[0]
        together = nest[1]
        return len(alone) == 1 and len(together) == 2 and alone[0] in together
    # Where the parts are alike, both members are the same nest.
    return len(nest) == 1 and len(nest[0]) == 1


def first(nest):
    if not is_pair(nest):
        raise NoPair("the nest is no pair")
    return nest[0][0]


def second(nest):
    one = first(nest)
    for part in nest[-1]:
        if part != one:
            return part
    return one


def product(one, other):
    found = []
    for here in one:
        for there in other:
            found.append(pair(here, there))
    return gathered(found)


def is_map(nest, one, other):
    if not all([is_pair_between(member, one, other) for member in nest]):
        return False
    firsts = [first(member) for member in nest]
    return all([firsts.count(member) == 1 for member in one])


def is_pair_between(nest, one, other):
    return is_pair(nest) and first(nest) in one and second(nest) in other


def value(nest, here):
    for member in nest:
        if is_pair(member) and first(member) == here:
            return second(member)
    raise NoPair("no pair has this first part")
