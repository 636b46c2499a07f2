"""Woods: their places, colours, nets and knots, and whether a thing is a wood."""

from modulewood.groups import is_prime
from modulewood.knots import branches_of, has_form_throughout, is_flat, is_leaf, knots_down, leaves_of, tint_between
from modulewood.nets import MOST_PLACES, net_with, pair
from modulewood.sets import in_order, require_two


def places_of(wood):
    return sorted(leaves_of(wood))


def branch_with(knot, place):
    held = [place in leaves_of(branch) for branch in branches_of(knot)]
    return held.index(True)


def colour_in(wood, one, other):
    require_two(leaves_of(wood), one, other)
    knot = wood
    here = branch_with(knot, one)
    there = branch_with(knot, other)
    while here == there:
        knot = branches_of(knot)[here]
        here = branch_with(knot, one)
        there = branch_with(knot, other)
    return tint_between(knot, here, there)


def add_colours_between_branches(colours, knot):
    held = [leaves_of(branch) for branch in branches_of(knot)]
    for i, behind in enumerate(held):
        for j, ahead in enumerate(held[:i]):
            tint = tint_between(knot, i, j)
            for one in behind:
                for other in ahead:
                    colours[pair(one, other)] = tint


def net_of(wood):
    colours = {}
    for knot in knots_down(wood):
        add_colours_between_branches(colours, knot)
    return net_with(leaves_of(wood), colours)


def knots(wood):
    return in_order([places_of(knot) for knot in knots_down(wood)])


def is_flat_of(knot, tint):
    return is_flat(knot) and knot[1] == tint


def is_sound(knot):
    if is_leaf(knot):
        return True
    leasts = [min(leaves_of(branch)) for branch in branches_of(knot)]
    if leasts != sorted(leasts):
        return False
    if is_flat(knot):
        return not any([is_flat_of(branch, knot[1]) for branch in branches_of(knot)])
    return is_prime((tuple(range(len(leasts))), knot[1]))


def is_wood(thing):
    if not has_form_throughout(thing):
        return False
    leaves = leaves_of(thing)
    # That no leaf stands twice in the whole says of each knot that no two of its branches share a place.
    if len(leaves) > MOST_PLACES or len(set(leaves)) != len(leaves):
        return False
    return all([is_sound(knot) for knot in knots_down(thing)])
