"""Two nets, or two woods, over the same places, laid on one another."""

from modulewood.asked import least_group
from modulewood.errors import Unlike
from modulewood.making import wood_of
from modulewood.nets import colours_of, net_with
from modulewood.woods import net_of, places_of


def require_same_places(places, others):
    if places != others:
        raise Unlike("what is laid on one another has the same places")


def laid(one, other):
    require_same_places(one[0], other[0])
    below = colours_of(one)
    above = colours_of(other)
    numbers = {}
    for number, tints in enumerate(sorted(set([(below[ends], above[ends]) for ends in below]))):
        numbers[tints] = number
    colours = {}
    for ends in below:
        colours[ends] = numbers[(below[ends], above[ends])]
    return net_with(one[0], colours)


def least_common(wood, other, some):
    require_same_places(places_of(wood), places_of(other))
    group = least_group(wood, some)
    grown = least_group(other, group)
    while grown != group:
        group = least_group(wood, grown)
        grown = least_group(other, group)
    return grown


def common_wood(wood, other):
    return wood_of(laid(net_of(wood), net_of(other)))
