"""What a wood alone tells: whether sets are groups, groups about and within sets, all groups and their number."""

from modulewood.errors import TooMany
from modulewood.knots import branches_of, is_flat, knots_down, leaves_of
from modulewood.sets import checked_set, in_order
from modulewood.woods import knots, places_of

MOST_GROUPS = 4000


def places_together(woods):
    places = []
    for wood in woods:
        places.extend(leaves_of(wood))
    return sorted(places)


def has_some_of(knot, members):
    return any([place in members for place in leaves_of(knot)])


def lies_within(knot, members):
    return all([place in members for place in leaves_of(knot)])


def branches_with_some_of(knot, members):
    return [branch for branch in branches_of(knot) if has_some_of(branch, members)]


def least_group(wood, some):
    members = checked_set(leaves_of(wood), some)
    knot = wood
    touched = branches_with_some_of(knot, members)
    while len(touched) == 1:
        knot = touched[0]
        touched = branches_with_some_of(knot, members)
    return places_together(touched) if is_flat(knot) else places_of(knot)


def has_group(wood, some):
    return least_group(wood, some) == sorted(set(some))


def greatest_in(wood, some):
    members = checked_set(leaves_of(wood), some)
    waiting = [wood]
    told = []
    while waiting:
        knot = waiting.pop()
        if lies_within(knot, members):
            told.append(places_of(knot))
        elif is_flat(knot):
            # Whole branches of a flat knot go together; of a prime one each stays by itself.
            whole = [branch for branch in branches_of(knot) if lies_within(branch, members)]
            if whole:
                told.append(places_together(whole))
            waiting.extend([branch for branch in branches_of(knot) if not lies_within(branch, members)])
        else:
            waiting.extend(branches_of(knot))
    return sorted(told)


def power_of_two(exponent):
    power = 1
    for turn in range(exponent):
        power = power * 2
    return power


def group_count(wood):
    found = knots_down(wood)
    widths = [len(branches_of(knot)) for knot in found if is_flat(knot)]
    return len(found) + sum([power_of_two(width) - width - 2 for width in widths])


# Some branches, but neither one nor all: those sets are knots already.
def choices_of(branches):
    choices = [[]]
    for branch in branches:
        choices = choices + [choice + [branch] for choice in choices]
    return [choice for choice in choices if len(choice) > 1 and len(choice) < len(branches)]


def groups(wood, most):
    if group_count(wood) > MOST_GROUPS:
        raise TooMany("a wood with more than 4,000 groups doesn't tell them one by one")
    told = knots(wood)
    for knot in knots_down(wood):
        if is_flat(knot):
            told.extend([places_together(choice) for choice in choices_of(branches_of(knot))])
    return (in_order(told)[:most], most >= len(told))
