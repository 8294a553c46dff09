"""Small nests as numbers, and numbers as nests."""

from nestsets.errors import NoNumber

GREATEST_OF_MEMBER = 63


def number_of(nest):
    return sum([share_of(member) for member in nest])


def share_of(member):
    number = number_of(member)
    if number > GREATEST_OF_MEMBER:
        raise NoNumber("a member's number is above 63")
    return power_of_two(number)


def power_of_two(times):
    power = 1
    for step in range(times):
        power = power * 2
    return power


def nest_of(number):
    # The words leave the number out: Python refuses to write very long ones.
    if number < 0 or number >= 2 ** 64:
        raise NoNumber("the number is not from 0 to 2 taken 64 times, less 1")
    members = []
    place = 0
    rest = number
    # From the lowest place up, since nests are in the order of their numbers.
    while rest > 0:
        if rest % 2 == 1:
            members.append(nest_of(place))
        rest = rest // 2
        place = place + 1
    return tuple(members)
