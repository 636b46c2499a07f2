"""Places and sets of places, held against the places of what is asked, a net or a wood."""

from modulewood.errors import NoPlace, NoSet, SamePlace

# No refusal writes out a place: Python may decline to write a very great number.


def require_place(places, place):
    if place not in places:
        raise NoPlace("a place that is none of those asked")


def require_two(places, one, other):
    require_place(places, one)
    require_place(places, other)
    if one == other:
        raise SamePlace("two places are asked for, not one twice")


def checked_set(places, some):
    for place in some:
        require_place(places, place)
    if len(some) == 0:
        raise NoSet("a set has a place at least")
    return sorted(set(some))


def in_order(sets):
    return sorted(sets, key=lambda some: (len(some), some))
