import copy
import itertools
import random
import unittest

from helper import (FLAT, GREAT, MIXED, PATH, PRIME, THREE, WOODS, RefusalCase, all_groups, all_nets, all_sets,
                    clumped_net, closed, leaves, looks_alike, many_woods, net_by, path_rows, random_net, random_wood,
                    tint, wood_by_groups)
from modulewood.errors import NoPlace, NoSet, Unlike
from modulewood.laying import common_wood, laid, least_common
from modulewood.making import wood_of
from modulewood.woods import is_wood, net_of

FIGURES = 10 ** 99


def laid_plainly(one, other):
    """The nets laid on one another, as the document tells it, pair by pair."""
    pairs = {(tint(one, *ends), tint(other, *ends)) for ends in itertools.combinations(one[0], 2)}
    order = sorted(pairs)
    return net_by(one[0], lambda a, b: order.index((tint(one, a, b), tint(other, a, b))))


def least_of_both(one, other, some):
    """The least set that has it and is a group of both nets: the one that lies in each other such set."""
    about = [group for group in all_sets(one[0])
             if set(some) <= set(group) and looks_alike(one, group) and looks_alike(other, group)]
    least = [group for group in about if all(set(group) <= set(outer) for outer in about)]
    return least[0]


def net_pairs():
    small = list(all_nets([0, 4, 9], [0, 1, 2]))
    yield from itertools.product(small, small)
    for seed, colours in ((1, (0, 1)), (2, (0, 3, GREAT))):
        chance = random.Random(seed)
        for size in (2, 4, 5, 6, 7):
            for turn in range(12):
                places = chance.sample(range(30), size)
                yield clumped_net(chance, places, colours), clumped_net(chance, places, colours)


def wood_pairs():
    for one, other in net_pairs():
        yield wood_by_groups(one), wood_by_groups(other)


class Laid(RefusalCase):
    def test_written_down(self):
        one = ((2, 5, 9), ((), (7,), (7, 1)))
        other = ((2, 5, 9), ((), (4,), (3, 8)))
        # The pairs are (1, 8), (7, 3), (7, 4), in this order.
        self.assertEqual(laid(one, other), ((2, 5, 9), ((), (2,), (1, 0))))
        # The pairs are (3, 7), (4, 7), (8, 1).
        self.assertEqual(laid(other, one), ((2, 5, 9), ((), (1,), (0, 2))))

    def test_one_place(self):
        for place in (0, 7, GREAT):
            self.assertEqual(laid(((place,), ((),)), ((place,), ((),))), ((place,), ((),)))

    def test_two_places(self):
        for one, other in itertools.product((0, 5, GREAT), repeat=2):
            self.assertEqual(laid(((1, 3), ((), (one,))), ((1, 3), ((), (other,)))), ((1, 3), ((), (0,))))

    def test_by_the_first_then_by_the_second(self):
        one = ((0, 1, 2, 3), ((), (2,), (1, 10), (1, 2, 1)))
        other = ((0, 1, 2, 3), ((), (1,), (9, 0), (10, 0, 9)))
        # (1, 9), (1, 10), (2, 0), (2, 1), (10, 0): as numbers, not as texts.
        self.assertEqual(laid(one, other), ((0, 1, 2, 3), ((), (3,), (0, 4), (1, 2, 0))))

    def test_numbered_from_nought_without_a_gap(self):
        for one, other in net_pairs():
            told = laid(one, other)
            tints = {colour for row in told[1] for colour in row}
            self.assertEqual(sorted(tints), list(range(len(tints))))
            self.assertEqual(told, laid_plainly(one, other))

    def test_a_net_on_itself(self):
        chance = random.Random(3)
        for size in (2, 5, 9):
            net = random_net(chance, range(size), (4, 7, 50))
            tints = sorted({colour for row in net[1] for colour in row})
            self.assertEqual(laid(net, net), net_by(net[0], lambda a, b: tints.index(tint(net, a, b))))

    def test_groups_of_the_laid_net_are_those_of_both(self):
        for one, other in net_pairs():
            told = laid(one, other)
            for some in all_sets(one[0]):
                self.assertEqual(looks_alike(told, some), looks_alike(one, some) and looks_alike(other, some))

    def test_a_hundred_figures(self):
        places = (FIGURES, FIGURES + 1, FIGURES * 9)
        one = (places, ((), (FIGURES + 1,), (FIGURES, FIGURES + 1)))
        other = (places, ((), (0,), (GREAT, FIGURES)))
        self.assertEqual(laid(one, other), (places, ((), (1,), (0, 2))))

    def test_twenty_four_places(self):
        chance = random.Random(4)
        places = chance.sample(range(100), 24)
        for colours in ((0, 1), range(1000)):
            one, other = random_net(chance, places, colours), random_net(chance, places, colours)
            self.assertEqual(laid(one, other), laid_plainly(one, other))

    def test_unlike(self):
        net = ((2, 5, 9), ((), (1,), (3, 4)))
        for other in (((2, 5, 8), ((), (1,), (3, 4))), ((2, 5), ((), (1,))), ((5, 9), ((), (1,))),
                      ((2, 5, 9, 10), ((), (1,), (3, 4), (0, 0, 0))), ((0, 2, 5, 9), ((), (1,), (3, 4), (0, 0, 0))),
                      ((2,), ((),)), ((GREAT,), ((),)), ((3, 6, 10), ((), (1,), (3, 4)))):
            self.refuse(Unlike, laid, net, other)
            self.refuse(Unlike, laid, other, net)

    def test_arguments_have_their_names(self):
        net = ((2, 5), ((), (4,)))
        self.assertEqual(laid(one=net, other=net), ((2, 5), ((), (0,))))


class LeastCommon(RefusalCase):
    def test_written_down(self):
        one = ("flat", 0, (("flat", 1, (0, 1)), ("flat", 1, (2, 3)), 4))
        other = ("flat", 0, (0, ("flat", 1, (1, 2)), 3, 4))
        self.assertEqual(least_common(one, other, [0]), [0])
        self.assertEqual(least_common(one, other, [4, 4]), [4])
        # By turns: 0 1, then 0 1 2, then 0 1 2 3, and nothing more comes.
        self.assertEqual(least_common(one, other, [1, 0]), [0, 1, 2, 3])
        self.assertEqual(least_common(other, one, [0, 1]), [0, 1, 2, 3])
        self.assertEqual(least_common(one, other, [2, 4]), [0, 1, 2, 3, 4])

    def test_many_turns(self):
        one = ("flat", 0, tuple(("flat", 1, (k, k + 1)) for k in range(0, 24, 2)))
        other = ("flat", 0, (0,) + tuple(("flat", 1, (k, k + 1)) for k in range(1, 23, 2)) + (23,))
        for first, second in ((one, other), (other, one)):
            self.assertEqual(least_common(first, second, [0, 1]), list(range(24)))
            self.assertEqual(least_common(first, second, [11, 12]), list(range(24)))
            self.assertEqual(least_common(first, second, [23]), [23])

    def test_all_sets_of_small_woods(self):
        for one, other in wood_pairs():
            nets = net_of(one), net_of(other)
            for some in all_sets(nets[0][0]):
                self.assertEqual(least_common(one, other, some), least_of_both(*nets, some))

    def test_a_wood_with_itself(self):
        for wood in many_woods((4, 7), 3):
            net = net_of(wood)
            for some in all_sets(net[0]):
                self.assertEqual(least_common(wood, wood, some), closed(net, some))

    def test_great_woods_against_the_nets_laid(self):
        chance = random.Random(5)
        for turn in range(40):
            places = chance.sample(range(60), 24)
            one, other = random_wood(chance, places, [0, 1, 2]), random_wood(chance, places, [0, 1, 2])
            net = laid_plainly(net_of(one), net_of(other))
            for length in (1, 2, 3):
                some = chance.sample(places, length)
                self.assertEqual(least_common(one, other, some), closed(net, some))

    def test_in_any_order_and_several_times(self):
        one, other = ("flat", 0, (2, 5, 9)), ("flat", 0, (("flat", 1, (2, 9)), 5))
        for mixed in itertools.permutations([2, 9, 9, 2]):
            self.assertEqual(least_common(one, other, list(mixed)), [2, 9])
        self.assertEqual(least_common(one, other, [5, 5]), [5])
        self.assertEqual(least_common(one, other, [9, 5]), [2, 5, 9])

    def test_no_place(self):
        for some in ([3], [2, 3], [2, 5, 9, 10], [GREAT]):
            self.refuse(NoPlace, least_common, FLAT, ("flat", 0, (2, 5, 9)), some)
        self.refuse(NoPlace, least_common, 7, 7, [8])

    def test_the_empty_list(self):
        for wood in WOODS:
            self.refuse(NoSet, least_common, wood, wood, [])

    def test_unlike_ahead_of_the_refusals_of_a_set(self):
        for other in (("flat", 4, (2, 5)), ("flat", 4, (2, 5, 8)), ("flat", 4, (2, 5, 9, 10)), 2, PRIME):
            for some in ([2], [5, 2], [8], [77], []):
                self.refuse(Unlike, least_common, FLAT, other, some)
                self.refuse(Unlike, least_common, other, FLAT, some)
        self.refuse(Unlike, least_common, 7, 8, [7])

    def test_arguments_have_their_names(self):
        self.assertEqual(least_common(wood=FLAT, other=FLAT, some=[9, 2]), [2, 9])


class CommonWood(RefusalCase):
    def test_written_down(self):
        one = ("flat", 0, (("flat", 1, (0, 1)), ("flat", 1, (2, 3)), 4))
        other = ("flat", 0, (0, ("flat", 1, (1, 2)), 3, 4))
        self.assertEqual(common_wood(one, other), ("flat", 0, (("prime", ((), (2,), (0, 1), (0, 0, 2)), (0, 1, 2, 3)),
                                                               4)))
        self.assertEqual(common_wood(7, 7), 7)
        self.assertEqual(common_wood(("flat", 3, (1, 2)), ("flat", 9, (1, 2))), ("flat", 0, (1, 2)))

    def test_first_and_second_change_sides(self):
        one = ("prime", THREE, (2, 5, 9))
        other = ("flat", 1, (("flat", 3, (2, 5)), 9))
        self.assertEqual(common_wood(one, other), ("prime", ((), (0,), (1, 2)), (2, 5, 9)))
        self.assertEqual(common_wood(other, one), ("prime", ((), (2,), (0, 1)), (2, 5, 9)))

    def test_of_small_woods(self):
        for one, other in wood_pairs():
            net = laid_plainly(net_of(one), net_of(other))
            self.assertEqual(common_wood(one, other), wood_by_groups(net))

    def test_its_groups_are_those_of_both(self):
        for one, other in itertools.islice(wood_pairs(), 700, 760):
            both = [some for some in all_groups(net_of(one)) if some in all_groups(net_of(other))]
            self.assertEqual(all_groups(net_of(common_wood(one, other))), both)

    def test_of_great_woods(self):
        chance = random.Random(6)
        for turn in range(20):
            places = chance.sample(range(60), 24)
            one, other = random_wood(chance, places, [0, 1, 2]), random_wood(chance, places, [0, 1, GREAT])
            told = common_wood(one, other)
            self.assertTrue(is_wood(told))
            self.assertEqual(net_of(told), laid_plainly(net_of(one), net_of(other)))
            self.assertEqual(told, wood_of(laid(net_of(one), net_of(other))))

    def test_of_a_wood_with_itself(self):
        def numbered(wood, tints):
            if isinstance(wood, int):
                return wood
            branches = tuple(numbered(branch, tints) for branch in wood[2])
            if wood[0] == "flat":
                return ("flat", tints.index(wood[1]), branches)
            return ("prime", tuple(tuple(map(tints.index, row)) for row in wood[1]), branches)

        for wood in many_woods((4, 9, 24), 3):
            tints = sorted({colour for row in net_of(wood)[1] for colour in row})
            self.assertEqual(common_wood(wood, wood), numbered(wood, tints))

    def test_with_one_that_tells_nothing_apart(self):
        for wood in many_woods((4, 9), 3):
            if len(leaves(wood)) > 1:
                plain = ("flat", 8, tuple(sorted(leaves(wood))))
                self.assertEqual(common_wood(plain, wood), common_wood(wood, wood))
                self.assertEqual(common_wood(wood, plain), common_wood(wood, wood))

    def test_unlike(self):
        for other in (("flat", 4, (2, 5)), ("flat", 4, (2, 5, 8)), ("flat", 4, (2, 5, 9, 10)), 2, PRIME, MIXED):
            self.refuse(Unlike, common_wood, FLAT, other)
            self.refuse(Unlike, common_wood, other, FLAT)
        self.refuse(Unlike, common_wood, 7, 8)

    def test_arguments_have_their_names(self):
        self.assertEqual(common_wood(wood=FLAT, other=FLAT), ("flat", 0, (2, 5, 9)))


class HandedInAndTold(unittest.TestCase):
    def test_what_is_handed_in_stays_and_lists_are_new(self):
        some = [9, 2, 9]
        told = least_common(FLAT, FLAT, some)
        self.assertEqual(some, [9, 2, 9])
        some.clear()
        self.assertEqual(told, [2, 9])
        told.append(7)
        self.assertEqual(least_common(FLAT, FLAT, [2, 9]), [2, 9])
        whole = [2, 5, 9]
        self.assertIsNot(least_common(FLAT, FLAT, whole), whole)

    def test_nets_and_woods_stay(self):
        net = ((1, 3, 6, 8), PATH)
        kept = copy.deepcopy((net, FLAT, MIXED))
        laid(net, (net[0], path_rows(4)))
        common_wood(MIXED, MIXED)
        common_wood(FLAT, FLAT)
        self.assertEqual((net, FLAT, MIXED), kept)


if __name__ == "__main__":
    unittest.main()
