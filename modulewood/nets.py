"""Nets: tuples (places, rows), made, asked and changed.

A net is changed by way of a dict from pairs of places to colours, since places
may come and go there without the rows being shifted.
"""

from modulewood.errors import NoColours, NoNet, Taken, Twice
from modulewood.sets import checked_set, require_place, require_two

MOST_PLACES = 24


# Both ways round two places have one colour, so one order of them serves as key.
def pair(one, other):
    return (one, other) if one > other else (other, one)


def colours_of(net):
    colours = {}
    for place, row in zip(net[0], net[1]):
        # A row has only the colours with the places ahead, so the walk ends with it.
        for ahead, tint in zip(net[0], row):
            colours[pair(place, ahead)] = tint
    return colours


def net_with(places, colours):
    rising = sorted(places)
    rows = []
    for i, place in enumerate(rising):
        rows.append(tuple([colours.get(pair(place, ahead), 0) for ahead in rising[:i]]))
    return (tuple(rising), tuple(rows))


def net_from(places, ties):
    if len(places) == 0 or len(places) > MOST_PLACES:
        raise NoNet("a net has 1 to 24 places")
    if len(set(places)) != len(places):
        raise NoNet("a net has each place once")
    colours = {}
    for one, other, tint in ties:
        require_two(places, one, other)
        ends = pair(one, other)
        if ends in colours:
            raise Twice("two ties have the same two ends")
        colours[ends] = tint
    return net_with(places, colours)


def colour(net, one, other):
    require_two(net[0], one, other)
    ends = pair(one, other)
    return net[1][net[0].index(ends[0])][net[0].index(ends[1])]


def recoloured(net, one, other, colour):
    require_two(net[0], one, other)
    colours = colours_of(net)
    colours[pair(one, other)] = colour
    return net_with(net[0], colours)


def with_place(net, place, colours):
    if len(net[0]) >= MOST_PLACES:
        raise NoNet("a net has at most 24 places")
    if place in net[0]:
        raise Taken("the net has this place")
    if len(colours) != len(net[0]):
        raise NoColours("a further place has one colour for each place of the net")
    known = colours_of(net)
    for other, tint in zip(net[0], colours):
        known[pair(place, other)] = tint
    return net_with(list(net[0]) + [place], known)


def without_place(net, place):
    require_place(net[0], place)
    others = [other for other in net[0] if other != place]
    if len(others) == 0:
        raise NoNet("a net has a place at least")
    return net_with(others, colours_of(net))


def part_of(net, some):
    return net_with(checked_set(net[0], some), colours_of(net))
