"""Groups of a net: sets of places of which no place outside tells two apart."""

from modulewood.nets import colours_of
from modulewood.sets import checked_set


# From each place, rising, to its colours with the others: so either end of two may be the one asked.
def sights_of(net):
    sights = {}
    for place in net[0]:
        sights[place] = {}
    for ends, tint in colours_of(net).items():
        sights[ends[0]][ends[1]] = tint
        sights[ends[1]][ends[0]] = tint
    return sights


# A place that tells any two of a set apart tells one of them apart from the first, so the first is held
# against the others alone.
def first_apart(sight, members):
    for member in members:
        if sight[member] != sight[members[0]]:
            return member
    return None


def teller_among(sights, members):
    for place in sights:
        if place not in members:
            other = first_apart(sights[place], members)
            if other is not None:
                return (place, members[0], other)
    return None


# Each place that comes is held against the first one once: what does not tell these two apart
# when it is asked never does.
def pulls_from(sights, members):
    first = members[0]
    outside = [place for place in sights if place not in members]
    waiting = members[1:]
    pulls = []
    while waiting:
        newcomer = waiting.pop()
        came = [place for place in outside if sights[place][newcomer] != sights[place][first]]
        outside = [place for place in outside if place not in came]
        pulls.extend([(place, first, newcomer) for place in came])
        waiting.extend(came)
    return pulls


def draws_all(sights, one, other):
    return len(pulls_from(sights, [one, other])) + 2 == len(sights)


def shares_by(sight, members):
    shares = {}
    for member in members:
        shares.setdefault(sight[member], []).append(member)
    return list(shares.values())


def teller(net, some):
    members = checked_set(net[0], some)
    return teller_among(sights_of(net), members)


def is_group(net, some):
    return teller(net, some) is None


def pulled(net, some):
    members = checked_set(net[0], some)
    pulls = pulls_from(sights_of(net), members)
    return (sorted(members + [pull[0] for pull in pulls]), pulls)


# A teller outside a part is outside each group within it, so no such group is cut when the part is.
def greatest_within(net, some):
    waiting = [checked_set(net[0], some)]
    sights = sights_of(net)
    told = []
    while waiting:
        part = waiting.pop()
        found = teller_among(sights, part)
        if found is None:
            told.append(part)
        else:
            waiting.extend(shares_by(sights[found[0]], part))
    return sorted(told)


# A group that has the first place and another one has the least group about these two; a group
# that has not the first place lies in the rest. So no more sets need to be looked at.
def is_prime(net):
    first = net[0][0]
    rest = list(net[0][1:])
    sights = sights_of(net)
    for other in rest:
        if not draws_all(sights, first, other):
            return False
    return len(greatest_within(net, rest)) == len(rest)
