"""Woods changed. Each is found by way of its net, since one change may make knots anywhere in a wood come or fall."""

from modulewood.making import wood_of
from modulewood.nets import part_of, recoloured, with_place
from modulewood.quotients import filled
from modulewood.woods import net_of


def grafted(wood, place, other):
    return wood_of(filled(net_of(wood), place, net_of(other)))


def pruned(wood, some):
    return wood_of(part_of(net_of(wood), some))


def with_leaf(wood, place, colours):
    return wood_of(with_place(net_of(wood), place, colours))


def wood_recoloured(wood, one, other, colour):
    return wood_of(recoloured(net_of(wood), one, other, colour))
