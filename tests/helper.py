"""What the tests share: refusals, nets and woods made plainly, and groups looked up over all sets."""

import copy
import itertools
import random
import unittest

from modulewood.errors import NetError

GREAT = 10 ** 100


class RefusalCase(unittest.TestCase):
    def refuse(self, refusal, ask, *handed):
        kept = copy.deepcopy(handed)
        with self.assertRaises(NetError) as caught:
            ask(*handed)
        self.assertIs(type(caught.exception), refusal)
        self.assertIsInstance(caught.exception, ValueError)
        self.assertEqual(handed, kept)


def tint(net, one, other):
    places, rows = net
    i, j = places.index(one), places.index(other)
    return rows[max(i, j)][min(i, j)]


def net_by(places, colour_of):
    """The net whose two places have the colour that colour_of(greater, less) tells."""
    rising = tuple(sorted(places))
    return (rising, tuple(tuple(colour_of(rising[i], rising[j]) for j in range(i)) for i in range(len(rising))))


def random_net(chance, places, colours):
    return net_by(places, lambda one, other: chance.choice(colours))


def clumped_net(chance, places, colours):
    """A net with groups within groups: now and then a set of places gets one colour with each place outside."""
    if len(places) == 1:
        return net_by(places, None)
    if chance.randrange(4) == 0:
        return random_net(chance, places, colours)
    mixed = chance.sample(sorted(places), len(places))
    cut = sorted(chance.sample(range(1, len(mixed)), min(len(mixed) - 1, chance.randrange(1, 4))))
    parts = [mixed[a:b] for a, b in zip([0] + cut, cut + [len(mixed)])]
    inner = [clumped_net(chance, part, colours) for part in parts]
    same = chance.choice([None] + list(colours))
    outer = {(i, j): same if same is not None else chance.choice(colours)
             for i in range(len(parts)) for j in range(i)}

    def colour_of(one, other):
        i, = [k for k, part in enumerate(parts) if one in part]
        j, = [k for k, part in enumerate(parts) if other in part]
        return tint(inner[i], one, other) if i == j else outer[max(i, j), min(i, j)]

    return net_by(places, colour_of)


def all_nets(places, colours):
    rising = tuple(sorted(places))
    pairs = [(i, j) for i in range(len(rising)) for j in range(i)]
    for row in itertools.product(colours, repeat=len(pairs)):
        told = iter(row)
        yield (rising, tuple(tuple(next(told) for j in range(i)) for i in range(len(rising))))


def all_sets(places):
    for size in range(1, len(places) + 1):
        for some in itertools.combinations(sorted(places), size):
            yield list(some)


def partings(places):
    """Every parting of the places, rising, into lists, in order of their least places."""
    if not places:
        yield []
        return
    for others in partings(places[1:]):
        yield [[places[0]]] + others
        for k in range(len(others)):
            yield [[places[0]] + others[k]] + others[:k] + others[k + 1:]


def looks_alike(net, some):
    return all(len({tint(net, place, one) for one in some}) == 1 for place in net[0] if place not in some)


def all_groups(net):
    return [some for some in all_sets(net[0]) if looks_alike(net, some)]


def closed(net, some):
    """The least group that has the set: whoever tells two of it apart comes in, until there is none."""
    group = set(some)
    while True:
        came = {place for place in net[0] if place not in group
                and len({tint(net, place, one) for one in group}) > 1}
        if not came:
            return sorted(group)
        group |= came


PATH = ((), (1,), (0, 1), (0, 0, 1))
THREE = ((), (1,), (2, 3))


def path_rows(length):
    return tuple(tuple(int(i - j == 1) for j in range(i)) for i in range(length))


def has_plain_groups_alone(net):
    return all(closed(net, ends) == list(net[0]) for ends in itertools.combinations(net[0], 2))


def leaves(wood):
    return [wood] if isinstance(wood, int) else [place for branch in wood[2] for place in leaves(branch)]


def prime_rows(chance, length, colours):
    while True:
        net = random_net(chance, range(length), colours)
        if has_plain_groups_alone(net):
            return net[1]


def random_wood(chance, places, colours, above=None):
    """A wood over the places; above is the colour of the flat knot that it hangs on, if it does."""
    if len(places) == 1:
        return places[0]
    mixed = chance.sample(sorted(places), len(places))
    count = min(len(mixed), chance.randrange(2, 7))
    cut = sorted(chance.sample(range(1, len(mixed)), count - 1))
    parts = [mixed[a:b] for a, b in zip([0] + cut, cut + [len(mixed)])]
    parts = sorted(parts, key=min)
    # Three branches are prime with three unlike colours alone.
    if count >= (3 if len(colours) > 2 else 4) and chance.randrange(2):
        rows = prime_rows(chance, count, colours)
        return ("prime", rows, tuple(random_wood(chance, part, colours) for part in parts))
    colour = chance.choice([colour for colour in colours if colour != above])
    return ("flat", colour, tuple(random_wood(chance, part, colours, colour) for part in parts))


FLAT = ("flat", 4, (2, 5, 9))
PRIME = ("prime", PATH, (1, 3, 6, 8))
MIXED = ("flat", 7, (("prime", THREE, (0, ("flat", 7, (4, 11)), 6)), 5, ("flat", GREAT, (9, GREAT))))
WOODS = (0, GREAT, FLAT, PRIME, MIXED)


def ladder(leaf, steps):
    """Flat woods within one another, two tuples a step; the leaf lies innermost."""
    thing = leaf
    for k in range(1, steps + 1):
        thing = ("flat", k % 2, (thing, k))
    return thing


def many_woods(sizes, times):
    yield from WOODS
    chance = random.Random(15)
    for size in sizes:
        places = [3 * k + GREAT * (k // 4) for k in range(size)]
        for colours in ([0, 1], [2, 5, GREAT]):
            for turn in range(times):
                yield random_wood(chance, places, colours)


def wood_by_groups(net):
    """The wood of a small net: its knots are the groups that no other group cuts."""
    groups = [frozenset(some) for some in all_groups(net)]
    uncut = [group for group in groups if all(group <= other or other <= group or not group & other
                                              for other in groups)]

    def grown(group):
        within = [other for other in uncut if other < group]
        parts = sorted((part for part in within if not any(part < other for other in within)), key=min)
        if not parts:
            return min(group)
        rows = net_by([min(part) for part in parts], lambda one, other: tint(net, one, other))[1]
        branches = tuple(grown(part) for part in parts)
        tints = {colour for row in rows for colour in row}
        return ("flat", min(tints), branches) if len(tints) == 1 else ("prime", rows, branches)

    return grown(frozenset(net[0]))


def inner_knots(wood):
    """The sets of the knots of two places or more, by how many places they have, then as lists."""
    found, waiting = [], [wood]
    while waiting:
        knot = waiting.pop()
        if not isinstance(knot, int):
            found.append(sorted(leaves(knot)))
            waiting.extend(knot[2])
    return sorted(found, key=lambda some: (len(some), some))


def came_and_fell(ahead, behind):
    old, young = inner_knots(ahead), inner_knots(behind)
    return [some for some in young if some not in old], [some for some in old if some not in young]


def put_in(net, place, colours):
    seen = dict(zip(net[0], colours))
    return net_by(net[0] + (place,), lambda one, other: seen[other] if one == place else
                  seen[one] if other == place else tint(net, one, other))


def taken_out(net, place):
    return net_by([other for other in net[0] if other != place], lambda one, other: tint(net, one, other))


def tied(net, ends, colour):
    return net_by(net[0], lambda one, other: colour if {one, other} == set(ends) else tint(net, one, other))


def drawn_deed(chance, net, places, colours):
    """A deed that is not refused, as a tuple (name, handed in), and the net behind it."""
    free = [place for place in places if place not in net[0]]
    kinds = ["tie", "take"] if len(net[0]) > 1 else []
    kinds += ["put", "put"] if free and len(net[0]) < 24 else []
    kind = chance.choice(kinds)
    if kind == "put":
        place, like = chance.choice(free), chance.choice(net[0])
        # Now and then a place like another one, so that groups come, too.
        drawn = [chance.choice(colours) if other == like else tint(net, like, other) for other in net[0]]
        if chance.randrange(3) == 0:
            drawn = [chance.choice(colours) for other in net[0]]
        return ("put", place, drawn), put_in(net, place, drawn)
    if kind == "take":
        place = chance.choice(net[0])
        return ("take", place), taken_out(net, place)
    one, other = chance.sample(net[0], 2)
    colour = chance.choice(colours)
    return ("tie", one, other, colour), tied(net, (one, other), colour)
