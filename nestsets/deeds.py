"""What is asked of nests, and what is made of them."""

from nestsets.nests import gathered


def has(nest, one):
    return one in nest


def within(one, other):
    return all([has(other, member) for member in one])


def is_closed(nest):
    return all([within(member, nest) for member in nest])


def both(one, other):
    return gathered(one + other)


# What is left of a rising row is rising, so shared and without need no sorting.
def shared(one, other):
    return tuple([member for member in one if has(other, member)])


def without(one, other):
    return tuple([member for member in one if not has(other, member)])


def joined(nest):
    members = []
    for member in nest:
        members.extend(member)
    return gathered(members)


def parts(nest):
    found = [()]
    # Each part with the next member is greater than all parts without it, and
    # these stay in their order with it, so the row of parts is rising.
    for member in nest:
        found = found + [part + (member,) for part in found]
    return tuple(found)


def depth(nest):
    return max([depth(member) + 1 for member in nest], default=0)


def below(nest):
    found = {}
    waiting = list(nest)
    while len(waiting) > 0:
        member = waiting.pop()
        if member not in found:
            found[member] = True
            waiting.extend(member)
    return gathered(list(found))
