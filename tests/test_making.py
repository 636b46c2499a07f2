import copy
import itertools
import random
import unittest

from helper import (GREAT, PATH, THREE, all_groups, all_nets, all_sets, clumped_net, ladder, leaves, looks_alike,
                    many_woods, net_by, path_rows, random_net, wood_by_groups)
from modulewood.asked import group_count, groups, has_group
from modulewood.making import wood_of
from modulewood.nets import net_from
from modulewood.woods import is_wood, net_of

MANY = tuple(3 * k + GREAT * (k // 13) for k in range(24))


def small_nets():
    yield from all_nets([5], [0])
    yield from all_nets([0, GREAT], [0, 1, GREAT])
    yield from all_nets([4, 7, 30], [0, 1, 2])
    yield from all_nets([0, 2, 3, GREAT], [0, 1, GREAT])
    yield from all_nets([1, 2, 4, 8, 16], [0, 1])


def middling_nets():
    chance = random.Random(19)
    for size in (5, 6, 7):
        places = [7 * k + GREAT * (k // 4) for k in range(size)]
        for turn in range(30):
            yield clumped_net(chance, places, [0, 1, GREAT])
        yield random_net(chance, places, [0, 1])


def great_nets():
    chance = random.Random(20)
    for places in (MANY[:13], MANY):
        for colours in ([0, 1], [0, 3, GREAT], list(range(300))):
            for turn in range(8):
                yield clumped_net(chance, places, colours)
            yield random_net(chance, places, colours)


class Plainly(unittest.TestCase):
    """Woods written down by hand."""

    def test_one_place(self):
        for place in (0, 7, GREAT, 10 ** 299):
            told = wood_of(((place,), ((),)))
            self.assertIs(type(told), int)
            self.assertEqual(told, place)

    def test_two_places(self):
        for colour in (0, 1, GREAT):
            self.assertEqual(wood_of(((3, 8), ((), (colour,)))), ("flat", colour, (3, 8)))

    def test_one_colour(self):
        for colour in (0, 5, GREAT):
            for size in (2, 3, 4, 23, 24):
                net = net_by(MANY[:size], lambda one, other: colour)
                self.assertEqual(wood_of(net), ("flat", colour, MANY[:size]))

    def test_three_unlike_colours(self):
        for rows in (THREE, ((), (2,), (1, 0)), ((), (GREAT,), (0, GREAT + 1))):
            self.assertEqual(wood_of(((2, 5, 9), rows)), ("prime", rows, (2, 5, 9)))

    def test_three_places_of_which_two_look_alike(self):
        self.assertEqual(wood_of(((2, 5, 9), ((), (1,), (0, 1)))), ("flat", 1, (("flat", 0, (2, 9)), 5)))
        self.assertEqual(wood_of(((2, 5, 9), ((), (1,), (0, 0)))), ("flat", 0, (("flat", 1, (2, 5)), 9)))
        self.assertEqual(wood_of(((2, 5, 9), ((), (0,), (0, 1)))), ("flat", 0, (2, ("flat", 1, (5, 9)))))

    def test_paths(self):
        for length in (4, 5, 11, 24):
            places = tuple(range(GREAT, GREAT + length))
            self.assertEqual(wood_of((places, path_rows(length))), ("prime", path_rows(length), places))

    def test_a_path_of_the_other_colour_and_over_places_in_another_order(self):
        net = net_from([0, 1, 2, 3], [(2, 0, 1), (0, 3, 1), (3, 1, 1)])
        self.assertEqual(wood_of(net), ("prime", ((), (0,), (1, 0), (1, 1, 0)), (0, 1, 2, 3)))
        turned = net_by(range(9), lambda one, other: int(one - other != 1))
        self.assertEqual(wood_of(turned), ("prime", turned[1], tuple(range(9))))

    def test_apart_and_all_tied(self):
        net = net_from([0, 1, 2, 3, 4], [(0, 3, 2), (1, 4, 2)])
        self.assertEqual(wood_of(net), ("flat", 0, (("flat", 2, (0, 3)), ("flat", 2, (1, 4)), 2)))
        net = net_by([0, 1, 2, 3, 4], lambda one, other: 2 if (one, other) not in ((3, 0), (4, 1)) else 0)
        self.assertEqual(wood_of(net), ("flat", 2, (("flat", 0, (0, 3)), ("flat", 0, (1, 4)), 2)))

    def test_held_together_by_several_colours(self):
        # By whatever colour but nought: 5 and 6 hold 0, 1 and 2 together, 7 holds 3 and 4.
        net = net_from([0, 1, 2, 3, 4], [(0, 1, 5), (1, 2, 6), (3, 4, 7)])
        self.assertEqual(wood_of(net), ("flat", 0, (("prime", ((), (5,), (0, 6)), (0, 1, 2)), ("flat", 7, (3, 4)))))

    def test_branches_by_their_least_places(self):
        net = net_from([0, 1, 2, 3, 4, 5], [(0, 5, 1), (1, 4, 2), (2, 3, 3)])
        self.assertEqual(wood_of(net), ("flat", 0, (("flat", 1, (0, 5)), ("flat", 2, (1, 4)), ("flat", 3, (2, 3)))))

    def test_a_flat_one_of_the_same_colour_within_a_prime_one(self):
        wood = ("flat", 0, (("prime", PATH, (0, ("flat", 0, (3, 9)), 4, 5)), 1, 2))
        net = net_from([0, 1, 2, 3, 4, 5, 9], [(0, 3, 1), (0, 9, 1), (3, 4, 1), (9, 4, 1), (4, 5, 1)])
        self.assertEqual(wood_of(net), wood)

    def test_blocks(self):
        # Three blocks of eight places, each a path in itself, with three colours between them.
        block_of = {place: k // 8 for k, place in enumerate(MANY)}

        def colour_of(one, other):
            if block_of[one] != block_of[other]:
                return GREAT + block_of[one] + block_of[other]
            return int(MANY.index(one) - MANY.index(other) == 1)

        blocks = tuple(("prime", path_rows(8), MANY[8 * k:8 * k + 8]) for k in range(3))
        rows = ((), (GREAT + 1,), (GREAT + 2, GREAT + 3))
        self.assertEqual(wood_of(net_by(MANY, colour_of)), ("prime", rows, blocks))
        flat = net_by(MANY, lambda one, other: 9 if block_of[one] != block_of[other] else colour_of(one, other))
        self.assertEqual(wood_of(flat), ("flat", 9, blocks))

    def test_blocks_that_lie_within_one_another(self):
        net = net_by(range(24), lambda one, other: 2 if one % 3 == other % 3 else one % 3 + other % 3 + 10)
        self.assertEqual(wood_of(net), ("prime", ((), (11,), (12, 13)), tuple(
            ("flat", 2, tuple(range(k, 24, 3))) for k in range(3))))

    def test_as_deep_as_a_wood_may_be(self):
        self.assertEqual(wood_of(net_of(ladder(0, 23))), ladder(0, 23))
        wood = 24
        for k in range(23, 0, -1):
            wood = ("flat", k % 2, (k, wood))
        self.assertEqual(wood_of(net_by(range(1, 25), lambda one, other: other % 2)), wood)

    def test_prime_ones_within_one_another(self):
        wood = 0
        for k in range(1, 22, 3):
            wood = ("prime", PATH, (wood, k, k + 1, k + 2))
        self.assertEqual(wood_of(net_of(wood)), wood)

    def test_each_two_places_with_a_colour_of_their_own(self):
        net = net_by(MANY, lambda one, other: 24 * MANY.index(one) + MANY.index(other))
        self.assertEqual(wood_of(net), ("prime", net[1], MANY))


class TheOneWood(unittest.TestCase):
    def check(self, net):
        told = wood_of(net)
        self.assertTrue(is_wood(told), told)
        self.assertEqual(net_of(told), net)
        return told

    def test_small_nets(self):
        for net in small_nets():
            self.assertEqual(self.check(net), wood_by_groups(net))

    def test_middling_nets(self):
        for net in middling_nets():
            self.assertEqual(self.check(net), wood_by_groups(net))

    def test_great_nets(self):
        for net in great_nets():
            self.check(net)

    def test_of_a_woods_net_it_is_that_wood(self):
        for wood in many_woods((2, 3, 4, 5, 9, 16, 24), 20):
            self.assertEqual(wood_of(net_of(wood)), wood)

    def test_the_groups_are_just_those_of_the_net(self):
        for net in itertools.chain(small_nets(), middling_nets()):
            told, wood = all_groups(net), wood_of(net)
            self.assertEqual(groups(wood, 4000), (told, True))
            self.assertEqual(group_count(wood), len(told))

    def test_whether_a_set_is_a_group_of_the_net(self):
        for net in middling_nets():
            wood = wood_of(net)
            for some in all_sets(net[0]):
                self.assertIs(has_group(wood, some), looks_alike(net, some))

    def test_kinds(self):
        def check_kinds(wood):
            if type(wood) is not int:
                self.assertIs(type(wood), tuple)
                self.assertIn(wood[0], ("flat", "prime"))
                self.assertIs(type(wood[2]), tuple)
                if wood[0] == "prime":
                    self.assertIs(type(wood[1]), tuple)
                    self.assertEqual({type(row) for row in wood[1]}, {tuple})
                for branch in wood[2]:
                    check_kinds(branch)

        for net in great_nets():
            check_kinds(wood_of(net))
            self.assertEqual(sorted(leaves(wood_of(net))), list(net[0]))


class HandedIn(unittest.TestCase):
    def test_nets_stay_and_asked_again_it_answers_the_same(self):
        nets = list(great_nets())
        kept = copy.deepcopy(nets)
        told = [wood_of(net) for net in nets]
        self.assertEqual([wood_of(net) for net in reversed(nets)], told[::-1])
        self.assertEqual(nets, kept)

    def test_the_argument_has_its_name(self):
        self.assertEqual(wood_of(net=((3, 8), ((), (5,)))), ("flat", 5, (3, 8)))


if __name__ == "__main__":
    unittest.main()
