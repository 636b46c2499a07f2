import copy
import itertools
import random
import unittest

from helper import GREAT, RefusalCase, all_groups, all_nets, clumped_net, net_by, partings, tint
from modulewood.errors import NoGroup, NoNet, NoParting, NoPlace, Taken
from modulewood.nets import net_from
from modulewood.quotients import filled, quotient

LONE = ((6,), ((),))
SMALL = ((2, 5, 9, 11), ((), (1,), (3, 3), (6, 6, 8)))


class Quotient(RefusalCase):
    def test_single_places(self):
        self.assertEqual(quotient(SMALL, [[2], [5], [9], [11]]), SMALL)
        self.assertEqual(quotient(LONE, [[6]]), LONE)

    def test_all_in_one_part(self):
        self.assertEqual(quotient(SMALL, [[2, 5, 9, 11]]), ((2,), ((),)))
        self.assertEqual(quotient(((GREAT, GREAT + 1), ((), (7,))), [[GREAT + 1, GREAT]]), ((GREAT,), ((),)))

    def test_other_partings(self):
        self.assertEqual(quotient(SMALL, [[2, 5], [9], [11]]), ((2, 9, 11), ((), (3,), (6, 8))))
        net = net_from([1, 3, 5, 7], [(1, 5, GREAT), (1, 7, GREAT), (3, 5, GREAT), (3, 7, GREAT), (1, 3, 2)])
        self.assertEqual(quotient(net, [[5, 7], [3, 1]]), ((1, 5), ((), (GREAT,))))

    def test_in_any_order(self):
        for parts in itertools.permutations([[2, 5], [9], [11]]):
            for first in ([2, 5], [5, 2]):
                told = quotient(SMALL, [first if len(part) == 2 else part for part in parts])
                self.assertEqual(told, ((2, 9, 11), ((), (3,), (6, 8))))

    def test_twenty_four_places(self):
        places = [2 * k for k in range(24)]
        net = net_by(places, lambda one, other: 100 * (one // 8) + other // 8 if one // 8 != other // 8 else one)
        told = quotient(net, [places[4 * k:4 * k + 4] for k in range(6)][::-1])
        self.assertEqual(told, net_by([8 * k for k in range(6)], lambda one, other: 100 * (one // 8) + other // 8))

    def test_every_parting_of_small_nets(self):
        chance = random.Random(12)
        nets = list(all_nets([1, 4, 6, 9], [0, 2]))
        nets += [clumped_net(chance, [0, 3, 4, GREAT, GREAT + 2], [0, 1, GREAT]) for turn in range(60)]
        for net in nets:
            groups = all_groups(net)
            for parts in partings(list(net[0])):
                if all(part in groups for part in parts):
                    told = quotient(net, parts)
                    leasts = [part[0] for part in parts]
                    self.assertEqual(told, net_by(leasts, lambda one, other: tint(net, one, other)))
                    self.check_colours(net, parts, told)
                else:
                    self.refuse(NoGroup, quotient, net, parts)

    def check_colours(self, net, parts, told):
        for part, later in itertools.combinations(parts, 2):
            for one, other in itertools.product(part, later):
                self.assertEqual(tint(net, one, other), tint(told, part[0], later[0]))

    def test_no_parting(self):
        for parts in ([], [[]], [[2, 5], [9], [11], []], [[], [2, 5, 9, 11]],
                      [[2], [5], [9]], [[2, 5, 9]],
                      [[2, 5, 5], [9], [11]], [[2, 5], [5, 9], [11]], [[2, 5, 9, 11], [2, 5, 9, 11]],
                      [[2, 5], [9], [11], [12]], [[2, 5, 3], [9], [11]], [[3], [5], [9], [11]],
                      [[2, 5], [9], [11 + GREAT]], [[2, 5], [9], [11], [9]]):
            self.refuse(NoParting, quotient, SMALL, parts)
        for parts in ([], [[]], [[6, 6]], [[6], [6]], [[6], []], [[7]], [[6, 7]]):
            self.refuse(NoParting, quotient, LONE, parts)

    def test_no_group(self):
        for parts in ([[2], [5], [9, 11]], [[2], [5, 9], [11]], [[2, 5], [9, 11]], [[2, 9], [5, 11]]):
            self.refuse(NoGroup, quotient, SMALL, parts)

    def test_no_parting_comes_ahead_of_no_group(self):
        for parts in ([[9, 11], [2], [5], []], [[9, 11], [2]], [[9, 11], [2], [5], [3]], [[9, 11], [2, 5, 9]],
                      [[9, 11], [2, 5], [5]], [[9, 11, 9], [2], [5]]):
            self.refuse(NoParting, quotient, SMALL, parts)

    def test_what_is_handed_in_stays_and_is_not_kept(self):
        parts = [[11], [5, 2], [9]]
        kept = copy.deepcopy(parts)
        told = quotient(SMALL, parts)
        self.assertEqual(parts, kept)
        parts[1].append(3)
        parts.pop()
        self.assertEqual(told, ((2, 9, 11), ((), (3,), (6, 8))))
        self.assertEqual(quotient(SMALL, kept), told)

    def test_arguments_have_their_names(self):
        self.assertEqual(quotient(net=LONE, parts=[[6]]), LONE)


class Filled(RefusalCase):
    def check(self, net, place, inner):
        others = [other for other in net[0] if other != place]

        def colour_of(one, other):
            ends = [one, other]
            inside = [end for end in ends if end in inner[0]]
            if len(inside) == 2:
                return tint(inner, one, other)
            if len(inside) == 0:
                return tint(net, one, other)
            return tint(net, place, ends[1 - ends.index(inside[0])])

        kept = copy.deepcopy((net, inner))
        told = filled(net, place, inner)
        self.assertEqual(told, net_by(others + list(inner[0]), colour_of))
        self.assertEqual((net, inner), kept)
        self.assertEqual(filled(net, place, inner), told)

    def test_below_between_and_above(self):
        for inner in (((0, 1), ((), (44,))), ((3, 7), ((), (44,))), ((12, 50), ((), (44,))),
                      ((0, 6, 90), ((), (41,), (42, 43))), ((GREAT,), ((),)), ((7, GREAT), ((), (GREAT,)))):
            for place in SMALL[0]:
                self.check(SMALL, place, inner)

    def test_written_down(self):
        inner = ((3, 40), ((), (7,)))
        self.assertEqual(filled(SMALL, 5, inner), ((2, 3, 9, 11, 40), ((), (1,), (3, 3), (6, 6, 8), (1, 7, 3, 6))))

    def test_the_other_net_has_the_number_of_the_filled_place(self):
        self.assertEqual(filled(SMALL, 5, ((5,), ((),))), SMALL)
        for place in SMALL[0]:
            self.check(SMALL, place, ((place, place + 1), ((), (77,))))
            self.check(SMALL, place, ((1, place, 30), ((), (77,), (78, 79))))

    def test_nets_of_one_place(self):
        self.assertEqual(filled(LONE, 6, SMALL), SMALL)
        self.assertEqual(filled(LONE, 6, ((0,), ((),))), ((0,), ((),)))
        self.assertEqual(filled(LONE, 6, LONE), LONE)
        self.check(SMALL, 9, LONE)

    def test_twenty_four_places_in_all(self):
        chance = random.Random(3)
        for size in (1, 2, 12, 23, 24):
            net = clumped_net(chance, [2 * k for k in range(25 - size)], [0, 1, GREAT])
            inner = clumped_net(chance, [2 * k + 1 for k in range(size)], [0, 1, GREAT])
            for place in net[0]:
                self.check(net, place, inner)

    def test_many(self):
        chance = random.Random(4)
        for turn in range(60):
            mixed = chance.sample(range(40), 12)
            size = chance.randrange(1, 12)
            net = clumped_net(chance, mixed[:size], [0, 1, 2])
            place = chance.choice(net[0])
            inner = clumped_net(chance, mixed[size:] + [place] * chance.randrange(2), [0, 1, 2])
            self.check(net, place, inner)

    def test_no_place(self):
        for place in (0, 3, 12, GREAT):
            self.refuse(NoPlace, filled, SMALL, place, LONE)

    def test_taken(self):
        self.refuse(Taken, filled, SMALL, 5, ((2,), ((),)))
        self.refuse(Taken, filled, SMALL, 5, ((5, 11), ((), (1,))))
        self.refuse(Taken, filled, SMALL, 5, ((0, 9), ((), (1,))))
        self.refuse(Taken, filled, SMALL, 5, SMALL)

    def test_no_net(self):
        places = [2 * k for k in range(24)]
        net = net_from(places, [])
        self.refuse(NoNet, filled, net, 0, ((1, 3), ((), (5,))))
        self.refuse(NoNet, filled, net, 0, ((0, 3), ((), (5,))))
        self.refuse(NoNet, filled, ((1, 3), ((), (5,))), 1, net)
        self.refuse(NoNet, filled, net_from(places[:13], []), 0, net_from([2 * k + 1 for k in range(13)], []))

    def test_the_first_in_order_where_several_are_due(self):
        full = net_from([2 * k for k in range(24)], [])
        self.refuse(NoPlace, filled, SMALL, 3, SMALL)
        self.refuse(NoPlace, filled, full, 1, ((1, 2), ((), (5,))))
        self.refuse(NoPlace, filled, full, 1, ((1, 3), ((), (5,))))
        self.refuse(Taken, filled, full, 2, ((1, 4), ((), (5,))))
        self.refuse(Taken, filled, full, 2, full)

    def test_arguments_have_their_names(self):
        self.assertEqual(filled(net=LONE, place=6, inner=SMALL), SMALL)


if __name__ == "__main__":
    unittest.main()
