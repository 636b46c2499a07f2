"""The quotient of a net by groups, and a place of a net filled with another net."""

from modulewood.errors import NoGroup, NoNet, NoParting, Taken
from modulewood.groups import is_group
from modulewood.nets import MOST_PLACES, colours_of, net_with, pair, part_of
from modulewood.sets import require_place


def require_parting(places, parts):
    standing = []
    for part in parts:
        if len(part) == 0:
            raise NoParting("a part has a place at least")
        standing.extend(part)
    if sorted(standing) != list(places):
        raise NoParting("each place of the net stands in just one part, once, and nothing else")


def quotient(net, parts):
    require_parting(net[0], parts)
    for part in parts:
        if not is_group(net, part):
            raise NoGroup("a part is no group")
    # Two groups apart have one colour between all their places, so the least ones stand for them.
    return part_of(net, [min(part) for part in parts])


def filled(net, place, inner):
    require_place(net[0], place)
    others = [other for other in net[0] if other != place]
    for newcomer in inner[0]:
        if newcomer in others:
            raise Taken("the other net has a place of this one")
    if len(others) + len(inner[0]) > MOST_PLACES:
        raise NoNet("a net has at most 24 places")
    colours = colours_of(net)
    # The nets have at most the filled place in common, so no two places are coloured by both.
    colours.update(colours_of(inner))
    for newcomer in inner[0]:
        for other in others:
            colours[pair(newcomer, other)] = colours[pair(place, other)]
    return net_with(others + list(inner[0]), colours)
