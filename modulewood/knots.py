"""Knots of a wood: the form of each by itself, its branches, and the colours that it tells."""


def is_leaf(knot):
    return isinstance(knot, int)


def is_flat(knot):
    return not is_leaf(knot) and knot[0] == "flat"


def branches_of(knot):
    return () if is_leaf(knot) else knot[2]


# A list of what waits in the stead of calls within calls, so that the depth of a wood doesn't matter.
def knots_down(wood):
    found = []
    waiting = [wood]
    while waiting:
        knot = waiting.pop()
        found.append(knot)
        waiting.extend(branches_of(knot))
    return found


def leaves_of(wood):
    return [knot for knot in knots_down(wood) if is_leaf(knot)]


def tint_between(knot, one, other):
    if is_flat(knot):
        return knot[1]
    return knot[1][max(one, other)][min(one, other)]


# True and False pass for ints with Python, but are no whole numbers.
def is_number(thing):
    return isinstance(thing, int) and not isinstance(thing, bool) and thing >= 0


def is_rows(thing, length):
    if not isinstance(thing, tuple) or len(thing) != length:
        return False
    for i, row in enumerate(thing):
        if not isinstance(row, tuple) or len(row) != i:
            return False
        if not all([is_number(tint) for tint in row]):
            return False
    return True


# The branches are not looked into here: a thing may be far deeper than a wood can be.
def has_form(thing):
    if not isinstance(thing, tuple):
        return is_number(thing)
    if len(thing) != 3 or not isinstance(thing[2], tuple):
        return False
    if thing[0] == "flat":
        return len(thing[2]) >= 2 and is_number(thing[1])
    if thing[0] == "prime":
        return len(thing[2]) >= 3 and is_rows(thing[1], len(thing[2]))
    return False


def has_form_throughout(thing):
    waiting = [thing]
    while waiting:
        part = waiting.pop()
        if not has_form(part):
            return False
        waiting.extend(branches_of(part))
    return True
