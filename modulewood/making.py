"""The wood of a net."""

from modulewood.groups import draws_all, sights_of
from modulewood.nets import part_of
from modulewood.quotients import quotient


def parts_held_without(sights, tint):
    outside = list(sights)
    parts = []
    while outside:
        waiting = [outside.pop(0)]
        part = []
        while waiting:
            place = waiting.pop()
            part.append(place)
            came = [other for other in outside if sights[place][other] != tint]
            outside = [other for other in outside if other not in came]
            waiting.extend(came)
        parts.append(part)
    return parts


# A colour by which the places fall apart is one that each place has with some other: so the first
# place's colours are all that need to be tried.
def flat_colour(sights):
    first = list(sights)[0]
    for tint in sorted(set(list(sights[first].values()))):
        if len(parts_held_without(sights, tint)) > 1:
            return tint
    return None


def prime_parts(sights):
    outside = list(sights)
    parts = []
    while outside:
        first = outside.pop(0)
        part = [first] + [other for other in outside if not draws_all(sights, first, other)]
        outside = [other for other in outside if other not in part]
        parts.append(part)
    return parts


# Each branch has fewer places than its net, so calls lie no deeper in one another than there are places.
def woods_of(net, parts):
    return tuple([wood_of(part_of(net, part)) for part in parts])


def wood_of(net):
    if len(net[0]) == 1:
        return net[0][0]
    sights = sights_of(net)
    tint = flat_colour(sights)
    if tint is not None:
        return ("flat", tint, woods_of(net, parts_held_without(sights, tint)))
    parts = prime_parts(sights)
    return ("prime", quotient(net, parts)[1], woods_of(net, parts))
