"""A grove: a net and its wood, kept while places come and go and are recoloured, deed by deed, and back again."""

from modulewood.asked import greatest_in, group_count, has_group, least_group
from modulewood.errors import NoDeed
from modulewood.groups import teller
from modulewood.making import wood_of
from modulewood.nets import net_from, recoloured, with_place, without_place
from modulewood.woods import knots


def knots_of_several(wood):
    return [knot for knot in knots(wood) if len(knot) > 1]


def came_and_fell(ahead, behind):
    old = knots_of_several(ahead)
    young = knots_of_several(behind)
    return ([knot for knot in young if knot not in old], [knot for knot in old if knot not in young])


# The last state, a tuple (net, wood), is the one that stands: a deed puts its own behind it, so that going back is
# taking one away. States are never changed themselves, so a list or a twin may share them.
class Grove:
    def __init__(self, place):
        self.states = [(net_from([place], []), place)]

    def net(self):
        return self.states[-1][0]

    def wood(self):
        return self.states[-1][1]

    # What is refused is refused while the changed net is made, so it comes no further than here.
    def put(self, place, colours):
        return self.grow_to(with_place(self.net(), place, colours))

    def take(self, place):
        return self.grow_to(without_place(self.net(), place))

    def tie(self, one, other, colour):
        return self.grow_to(recoloured(self.net(), one, other, colour))

    def grow_to(self, changed):
        ahead = self.wood()
        self.states.append((changed, wood_of(changed)))
        return came_and_fell(ahead, self.wood())

    def back(self):
        if len(self.states) == 1:
            raise NoDeed("there is no deed left to undo")
        undone = self.states.pop()
        return came_and_fell(undone[1], self.wood())

    def group_count(self):
        return group_count(self.wood())

    def least_group(self, some):
        return least_group(self.wood(), some)

    def has_group(self, some):
        return has_group(self.wood(), some)

    def greatest_in(self, some):
        return greatest_in(self.wood(), some)

    def teller(self, some):
        return teller(self.net(), some)


def grove_like(grove):
    twin = Grove(grove.net()[0][0])
    twin.states = [(grove.net(), grove.wood())]
    return twin
