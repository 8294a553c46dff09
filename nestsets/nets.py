"""Nets of points that tell sets, and the counting nests."""

from nestsets.errors import NoSet
from nestsets.nests import gathered


def sets_of(net):
    found = {}
    while len(found) < len(net):
        ready = ready_points(net, found)
        # Where each point left leads to another that is left, there is a ring.
        if len(ready) == 0:
            raise NoSet("from some point one can come to itself")
        for point in ready:
            found[point] = gathered([found[led_to] for led_to in net[point]])
    return tuple([found[point] for point in range(len(net))])


def ready_points(net, found):
    return [point for point in range(len(net)) if point not in found and leads_within(net[point], found)]


def leads_within(leads, found):
    return all([led_to in found for led_to in leads])


def counting(number):
    members = []
    for step in range(number):
        members.append(tuple(members))
    return tuple(members)


def count_of(nest):
    # In a counting nest each member is the nest of those that stand before it.
    if all([nest[place] == nest[:place] for place in range(len(nest))]):
        return len(nest)
    return None
