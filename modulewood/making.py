"""The wood of a net."""

from modulewood.groups import draws_all, greatest_within, sights_of
from modulewood.nets import part_of
from modulewood.quotients import quotient


def parts_held_without(sights, tint):
    outside = list(sights)
    parts = []
    while outside:
        waiting = [outside.pop(0)]
        part = []
        while waiting:
            place = waiting.pop()
            part.append(place)
            came = [other for other in outside if sights[place][other] != tint]
            outside = [other for other in outside if other not in came]
            waiting.extend(came)
        parts.append(part)
    return parts


# A colour by which the places fall apart is one that each place has with some other: so the first
# place's colours are all that need to be tried.
def flat_colour(sights):
    first = list(sights)[0]
    for tint in sorted(set(list(sights[first].values()))):
        if len(parts_held_without(sights, tint)) > 1:
            return tint
    return None


# No branches of a prime knot go together to a group but all of them: so the groups outside the first
# place's branch are found as the greatest ones there, without asking for each two places.
def prime_parts(net, sights):
    first = net[0][0]
    apart = [other for other in net[0][1:] if draws_all(sights, first, other)]
    return [[place for place in net[0] if place not in apart]] + greatest_within(net, apart)


# Each branch has fewer places than its net, so calls lie no deeper in one another than there are places.
def woods_of(net, parts):
    return tuple([wood_of(part_of(net, part)) for part in parts])


def wood_of(net):
    if len(net[0]) == 1:
        return net[0][0]
    sights = sights_of(net)
    tint = flat_colour(sights)
    if tint is not None:
        return ("flat", tint, woods_of(net, parts_held_without(sights, tint)))
    parts = prime_parts(net, sights)
    return ("prime", quotient(net, parts)[1], woods_of(net, parts))
