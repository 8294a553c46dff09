"""What the tests hold the program against: sets as frozensets, and the words of the document."""

import functools

# The nests of 0 to 8, written out.
FIRST = (
    (),
    ((),),
    (((),),),
    ((), ((),)),
    ((((),),),),
    ((), (((),),)),
    (((),), (((),),)),
    ((), ((),), (((),),)),
    (((), ((),)),),
)


def set_of(nest):
    return frozenset([set_of(member) for member in nest])


@functools.lru_cache(maxsize=None)
def is_greater(one, other):
    """Point 0.4, word for word, over frozensets."""
    if one == other:
        return False
    for candidate in one ^ other:
        rest = (one ^ other) - {candidate}
        if all(is_greater(candidate, another) for another in rest):
            return candidate in one
    raise AssertionError("no greatest one")


def compared(one, other):
    return is_greater(one, other) - is_greater(other, one)


@functools.lru_cache(maxsize=None)
def nest_from(some):
    """The nest of a frozenset of frozensets."""
    return tuple([nest_from(member) for member in sorted(some, key=functools.cmp_to_key(compared))])


def nest_with(some):
    """The nest with just these members."""
    return nest_from(frozenset([set_of(member) for member in some]))


def counted(number):
    """The counting nest of a number."""
    return tuple([counted(less) for less in range(number)])


def numbered(number):
    """The nest of a number, of any size."""
    return tuple([numbered(place) for place in range(number.bit_length()) if number >> place & 1])


def value(nest):
    """Point 2.1's sum, without its bound."""
    return sum([1 << value(member) for member in nest])


def chain(depth):
    """The empty nest, put so many times into a nest alone."""
    nest = ()
    for _ in range(depth):
        nest = (nest,)
    return nest


def depth(nest):
    return max([depth(member) + 1 for member in nest], default=0)


# In rising order; those from {64} on have no number.
ROW = FIRST + (
    numbered(9),
    numbered(15),
    numbered(16),
    numbered(63),
    numbered(64),
    numbered(65),
    numbered(2 ** 16 - 1),
    numbered(2 ** 16),
    numbered(2 ** 63),
    numbered(2 ** 64 - 1),
    (numbered(64),),
    ((), numbered(64)),
    (((), ((),)), numbered(64)),
    (numbered(65),),
    (numbered(2 ** 16),),
    ((), numbered(2 ** 16)),
    (numbered(2 ** 64 - 1),),
    ((numbered(64),),),
    chain(7),
    ((), chain(6)),
    (chain(5), chain(6)),
    chain(8),
    chain(29),
    chain(30),
    ((), chain(29)),
    (chain(28), chain(29)),
)
