import copy
import itertools
import random
import unittest

from helper import (FLAT, GREAT, MIXED, PATH, PRIME, THREE, WOODS, RefusalCase, all_nets, all_sets, leaves,
                    many_woods, net_by, path_rows, random_wood, tint, wood_by_groups)
from modulewood.errors import NoColours, NoNet, NoPlace, NoSet, SamePlace, Taken
from modulewood.nets import net_from, part_of, recoloured, with_place
from modulewood.quotients import filled
from modulewood.woods import is_wood, net_of
from modulewood.working import grafted, pruned, with_leaf, wood_recoloured

FULL = ("flat", 0, (("prime", path_rows(12), tuple(range(0, 24, 2))), ("flat", 1, tuple(range(24, 48, 2)))))


def woods_of_three_and_four_places():
    for net in itertools.chain(all_nets([0, 4, 9], [0, 1, 2]), all_nets([2, 3, 5, 8], [0, 1])):
        yield wood_by_groups(net)


class WoodCase(RefusalCase):
    def check(self, told, net):
        """A net has just one wood: so what is a wood and has this net is the one."""
        self.assertTrue(is_wood(told), told)
        self.assertEqual(net_of(told), net)


class Grafted(WoodCase):
    def test_written_down(self):
        self.assertEqual(grafted(FLAT, 5, ("flat", 1, (3, 7))), ("flat", 4, (2, ("flat", 1, (3, 7)), 9)))
        self.assertEqual(grafted(FLAT, 5, PRIME), ("flat", 4, (PRIME, 2, 9)))
        self.assertEqual(grafted(PRIME, 6, FLAT), ("prime", ((), (0,), (1, 1), (0, 1, 0)), (1, FLAT, 3, 8)))

    def test_a_leaf_for_a_leaf(self):
        self.assertEqual(grafted(FLAT, 5, 5), FLAT)
        self.assertEqual(grafted(FLAT, 5, 6), ("flat", 4, (2, 6, 9)))
        self.assertEqual(grafted(FLAT, 5, 1), ("flat", 4, (1, 2, 9)))
        self.assertEqual(grafted(FLAT, 5, GREAT), ("flat", 4, (2, 9, GREAT)))
        self.assertEqual(grafted(PRIME, 3, 7), ("prime", ((), (0,), (1, 1), (0, 1, 0)), (1, 6, 7, 8)))

    def test_on_a_leaf(self):
        for wood in WOODS:
            self.assertEqual(grafted(0, 0, wood), wood)
            self.assertEqual(grafted(7, 7, wood), wood)

    def test_flat_under_flat_of_the_same_colour(self):
        self.assertEqual(grafted(FLAT, 5, ("flat", 4, (3, 7))), ("flat", 4, (2, 3, 7, 9)))
        self.assertEqual(grafted(FLAT, 9, ("flat", 4, (0, ("flat", 5, (3, 7))))),
                         ("flat", 4, (0, 2, ("flat", 5, (3, 7)), 5)))
        wood = ("prime", PATH, (1, ("flat", 0, (3, 30)), 6, 8))
        self.assertEqual(grafted(wood, 30, ("flat", 0, (2, 40))),
                         ("prime", PATH, (1, ("flat", 0, (2, 3, 40)), 6, 8)))

    def test_flat_of_another_colour_and_flat_under_prime_stay(self):
        self.assertEqual(grafted(FLAT, 5, ("flat", 0, (3, 7))), ("flat", 4, (2, ("flat", 0, (3, 7)), 9)))
        self.assertEqual(grafted(PRIME, 3, ("flat", 1, (3, 4))), ("prime", PATH, (1, ("flat", 1, (3, 4)), 6, 8)))

    def test_the_other_wood_has_the_number_of_the_leaf(self):
        self.assertEqual(grafted(FLAT, 5, ("flat", 1, (5, 7))), ("flat", 4, (2, ("flat", 1, (5, 7)), 9)))
        self.assertEqual(grafted(FLAT, 2, ("flat", 1, (2, 7))), ("flat", 4, (("flat", 1, (2, 7)), 5, 9)))

    def test_each_leaf_of_small_woods(self):
        others = (1, ("flat", 0, (1, 7)), ("flat", 1, (6, GREAT)), ("prime", THREE, (1, 6, 7)),
                  ("flat", 1, (1, ("flat", 0, (6, 7)))))
        for wood in woods_of_three_and_four_places():
            for place, other in itertools.product(leaves(wood), others):
                net = filled(net_of(wood), place, net_of(other))
                self.check(grafted(wood, place, other), net)

    def test_the_colours_are_as_told(self):
        for place, other in itertools.product(leaves(MIXED), (1, FLAT, PRIME)):
            inner, kept = leaves(other), [leaf for leaf in leaves(MIXED) if leaf != place]
            if set(inner) & set(kept):
                self.refuse(Taken, grafted, MIXED, place, other)
                continue

            def colour_of(one, beside):
                if one in inner and beside in inner:
                    return tint(net_of(other), one, beside)
                return tint(net_of(MIXED), place if one in inner else one, place if beside in inner else beside)

            self.check(grafted(MIXED, place, other), net_by(inner + kept, colour_of))

    def test_many(self):
        chance = random.Random(20)
        for turn in range(80):
            mixed = chance.sample(range(60), 24)
            cut = chance.choice((1, 2, 5, 12, 23))
            wood, other = (random_wood(chance, part, [0, 1, 2]) for part in (mixed[:cut], mixed[cut:]))
            place = chance.choice(leaves(wood))
            self.check(grafted(wood, place, other), filled(net_of(wood), place, net_of(other)))

    def test_twenty_four_places_in_all(self):
        self.check(grafted(FULL, 4, 51), filled(net_of(FULL), 4, ((51,), ((),))))
        self.assertEqual(grafted(1, 1, FULL), FULL)
        self.assertEqual(grafted(("flat", 0, (1, 2)), 1, ("flat", 0, tuple(range(3, 26)))),
                         ("flat", 0, tuple(range(2, 26))))

    def test_no_place(self):
        for place in (0, 3, 4, 10, GREAT):
            self.refuse(NoPlace, grafted, FLAT, place, 77)
        self.refuse(NoPlace, grafted, 7, 8, FLAT)

    def test_taken(self):
        self.refuse(Taken, grafted, FLAT, 5, 2)
        self.refuse(Taken, grafted, FLAT, 5, ("flat", 1, (5, 9)))
        self.refuse(Taken, grafted, FLAT, 5, FLAT)
        self.refuse(Taken, grafted, MIXED, 0, ("prime", PATH, (0, 1, 2, GREAT)))

    def test_no_net(self):
        self.refuse(NoNet, grafted, FULL, 4, ("flat", 0, (1, 3)))
        self.refuse(NoNet, grafted, FULL, 4, ("flat", 0, (1, 4)))
        self.refuse(NoNet, grafted, ("flat", 0, (1, 3)), 1, FULL)
        self.refuse(NoNet, grafted, ("flat", 0, tuple(range(0, 26, 2))), 4, ("flat", 0, tuple(range(1, 27, 2))))

    def test_the_first_in_order_where_several_are_due(self):
        self.refuse(NoPlace, grafted, FLAT, 3, FLAT)
        self.refuse(NoPlace, grafted, FULL, 1, ("flat", 0, (1, 3)))
        self.refuse(NoPlace, grafted, FULL, 1, FULL)
        self.refuse(Taken, grafted, FULL, 2, ("flat", 0, (1, 4)))
        self.refuse(Taken, grafted, FULL, 2, FULL)

    def test_arguments_have_their_names(self):
        self.assertEqual(grafted(wood=FLAT, place=5, other=6), ("flat", 4, (2, 6, 9)))


class Pruned(WoodCase):
    def test_written_down(self):
        self.assertEqual(pruned(FLAT, [9, 2]), ("flat", 4, (2, 9)))
        self.assertEqual(pruned(FLAT, [5]), 5)
        self.assertEqual(pruned(MIXED, [9, GREAT, 4]), ("flat", 7, (4, ("flat", GREAT, (9, GREAT)))))
        self.assertEqual(pruned(MIXED, [0, 4, 6, 11]), MIXED[2][0])

    def test_to_one_place_and_to_all(self):
        for wood in WOODS:
            self.assertEqual(pruned(wood, leaves(wood)), wood)
            for place in leaves(wood):
                self.assertEqual(pruned(wood, [place]), place)

    def test_a_prime_one_falls_apart(self):
        self.assertEqual(pruned(PRIME, [1, 3, 6]), ("flat", 1, (("flat", 0, (1, 6)), 3)))
        self.assertEqual(pruned(PRIME, [1, 3, 8]), ("flat", 0, (("flat", 1, (1, 3)), 8)))
        self.assertEqual(pruned(PRIME, [1, 8]), ("flat", 0, (1, 8)))

    def test_branches_of_one_colour_fall_together(self):
        wood = ("flat", 1, (("flat", 0, (0, ("flat", 1, (2, 3)))), 4))
        self.assertEqual(pruned(wood, [2, 3, 4]), ("flat", 1, (2, 3, 4)))
        wood = ("flat", 7, (("prime", THREE, (0, ("flat", 7, (4, 11)), 6)), 5))
        self.assertEqual(pruned(wood, [4, 5, 11]), ("flat", 7, (4, 5, 11)))

    def test_branches_in_another_order(self):
        wood = ("flat", 1, (("flat", 0, (0, 9)), ("flat", 0, (3, 4)), 7))
        self.assertEqual(pruned(wood, [9, 3, 4, 7]), ("flat", 1, (("flat", 0, (3, 4)), 7, 9)))
        wood = ("prime", PATH, (("flat", 0, (0, 90)), 1, 2, 3))
        self.assertEqual(pruned(wood, [90, 1, 2, 3]), ("prime", ((), (1,), (0, 1), (1, 0, 0)), (1, 2, 3, 90)))

    def test_all_sets_of_small_woods(self):
        for wood in itertools.chain(woods_of_three_and_four_places(), many_woods((5, 7), 3)):
            net = net_of(wood)
            for some in all_sets(net[0]):
                told = pruned(wood, some)
                self.check(told, part_of(net, some))
                self.check(told, net_by(some, lambda one, other: tint(net, one, other)))

    def test_sets_of_great_woods(self):
        chance = random.Random(21)
        for wood in many_woods((12, 24), 6):
            for turn in range(6):
                some = chance.sample(leaves(wood), chance.randrange(1, len(leaves(wood)) + 1))
                self.check(pruned(wood, some), part_of(net_of(wood), some))

    def test_in_any_order_and_several_times(self):
        for some in ([2, 9], [2, 5, 9]):
            for mixed in itertools.permutations(some * 2):
                self.assertEqual(pruned(FLAT, list(mixed)), ("flat", 4, tuple(some)))
        self.assertEqual(pruned(FLAT, [5] * 50), 5)

    def test_no_place(self):
        for some in ([3], [2, 3], [4, 2], [2, 5, 9, 11], [GREAT]):
            self.refuse(NoPlace, pruned, FLAT, some)
        self.refuse(NoPlace, pruned, 7, [7, 8])

    def test_the_empty_list(self):
        for wood in WOODS:
            self.refuse(NoSet, pruned, wood, [])

    def test_arguments_have_their_names(self):
        self.assertEqual(pruned(wood=FLAT, some=[5]), 5)


class WithLeaf(WoodCase):
    def test_on_a_leaf(self):
        self.assertEqual(with_leaf(3, 8, [5]), ("flat", 5, (3, 8)))
        self.assertEqual(with_leaf(8, 3, [GREAT]), ("flat", GREAT, (3, 8)))

    def test_one_colour_to_all(self):
        self.assertEqual(with_leaf(FLAT, 7, [4, 4, 4]), ("flat", 4, (2, 5, 7, 9)))
        self.assertEqual(with_leaf(FLAT, 7, [0, 0, 0]), ("flat", 0, (FLAT, 7)))
        self.assertEqual(with_leaf(FLAT, 0, [6, 6, 6]), ("flat", 6, (0, FLAT)))
        self.assertEqual(with_leaf(PRIME, 0, [1, 1, 1, 1]), ("flat", 1, (0, PRIME)))

    def test_by_the_places_in_their_order(self):
        wood = ("flat", 1, (("flat", 0, (0, 9)), 3))
        self.assertEqual(with_leaf(wood, 5, [0, 1, 0]), ("flat", 1, (("flat", 0, (0, 5, 9)), 3)))
        self.assertEqual(with_leaf(wood, 5, [1, 2, 1]), ("flat", 1, (("flat", 0, (0, 9)), ("flat", 2, (3, 5)))))

    def test_branches_fall_apart_and_together(self):
        self.assertEqual(with_leaf(FLAT, 7, [4, 4, 1]), ("flat", 4, (2, 5, ("flat", 1, (7, 9)))))
        self.assertEqual(with_leaf(FLAT, 7, [1, 1, 4]), ("flat", 4, (("flat", 1, (("flat", 4, (2, 5)), 7)), 9)))
        apart = ("flat", 0, (("flat", 1, (0, 1)), ("flat", 1, (2, 3))))
        self.assertEqual(with_leaf(apart, 4, [1, 1, 1, 1]), ("flat", 1, (apart, 4)))
        self.assertEqual(with_leaf(apart, 4, [0, 1, 1, 0]), ("prime", ((), (1,), (0, 0), (0, 0, 1), (0, 1, 1, 0)),
                                                             (0, 1, 2, 3, 4)))

    def test_a_leaf_beside_one_like_it(self):
        self.assertEqual(with_leaf(PRIME, 4, [1, 5, 1, 0]), ("prime", PATH, (1, ("flat", 5, (3, 4)), 6, 8)))

    def test_all_colours_on_small_woods(self):
        for wood in woods_of_three_and_four_places():
            net = net_of(wood)
            for place in (1, 6, GREAT):
                for colours in itertools.product((0, 1), repeat=len(net[0])):
                    told = with_leaf(wood, place, list(colours))
                    self.check(told, with_place(net, place, list(colours)))

    def test_colours_are_as_told(self):
        chance = random.Random(22)
        for wood in many_woods((5, 9, 23), 6):
            net = net_of(wood)
            for place in (7, GREAT + 2):
                colours = dict(zip(net[0], [chance.choice((0, 1, 5)) for turn in net[0]]))
                told = with_leaf(wood, place, list(colours.values()))
                self.check(told, net_by(net[0] + (place,), lambda one, other: colours[other] if one == place else
                                        colours[one] if other == place else tint(net, one, other)))

    def test_the_twenty_fourth(self):
        wood = ("flat", 0, tuple(range(1, 24)))
        self.assertEqual(with_leaf(wood, 0, [0] * 23), ("flat", 0, tuple(range(24))))

    def test_no_net(self):
        self.refuse(NoNet, with_leaf, FULL, 1, [0] * 24)
        self.refuse(NoNet, with_leaf, ("flat", 0, tuple(range(24))), 24, [0] * 24)

    def test_taken(self):
        self.refuse(Taken, with_leaf, FLAT, 5, [4, 4, 4])
        self.refuse(Taken, with_leaf, 7, 7, [4])

    def test_no_colours(self):
        for colours in ([], [4], [4, 4], [4, 4, 4, 4]):
            self.refuse(NoColours, with_leaf, FLAT, 7, colours)
        self.refuse(NoColours, with_leaf, 7, 8, [])

    def test_the_first_in_order_where_several_are_due(self):
        self.refuse(NoNet, with_leaf, FULL, 2, [0])
        self.refuse(NoNet, with_leaf, FULL, 2, [0] * 24)
        self.refuse(NoNet, with_leaf, FULL, 1, [0])
        self.refuse(Taken, with_leaf, FLAT, 5, [4])

    def test_arguments_have_their_names(self):
        self.assertEqual(with_leaf(wood=3, place=8, colours=[5]), ("flat", 5, (3, 8)))


class WoodRecoloured(WoodCase):
    def test_two_places(self):
        self.assertEqual(wood_recoloured(("flat", 4, (2, 5)), 2, 5, 9), ("flat", 9, (2, 5)))
        self.assertEqual(wood_recoloured(("flat", 4, (2, 5)), 5, 2, 0), ("flat", 0, (2, 5)))

    def test_nothing_changes(self):
        for wood in WOODS:
            net = net_of(wood)
            for one, other in itertools.permutations(net[0], 2):
                self.assertEqual(wood_recoloured(wood, one, other, tint(net, one, other)), wood)

    def test_branches_fall_together(self):
        self.assertEqual(wood_recoloured(FLAT, 9, 2, 1), ("flat", 4, (("flat", 1, (2, 9)), 5)))
        self.assertEqual(wood_recoloured(("flat", 4, (2, ("flat", 1, (5, 9)))), 5, 9, 4), FLAT)
        square = ("flat", 1, (("flat", 0, (0, 3)), ("flat", 0, (1, 2))))
        self.assertEqual(wood_recoloured(square, 0, 3, 1), ("flat", 1, (0, ("flat", 0, (1, 2)), 3)))

    def test_branches_fall_apart(self):
        self.assertEqual(wood_recoloured(PRIME, 3, 6, 0), ("flat", 0, (("flat", 1, (1, 3)), ("flat", 1, (6, 8)))))
        self.assertEqual(wood_recoloured(PRIME, 8, 1, 1), ("flat", 1, (("flat", 0, (1, 6)), ("flat", 0, (3, 8)))))

    def test_a_prime_one_comes(self):
        apart = ("flat", 0, (("flat", 1, (1, 3)), ("flat", 1, (6, 8))))
        self.assertEqual(wood_recoloured(apart, 6, 3, 1), PRIME)
        self.assertEqual(wood_recoloured(("flat", 4, (2, ("flat", 1, (5, 9)))), 2, 9, 0),
                         ("prime", ((), (4,), (0, 1)), (2, 5, 9)))

    def test_each_two_places_of_small_woods(self):
        for wood in woods_of_three_and_four_places():
            net = net_of(wood)
            for one, other in itertools.permutations(net[0], 2):
                for colour in (0, 1, GREAT):
                    self.check(wood_recoloured(wood, one, other, colour), recoloured(net, one, other, colour))

    def test_colours_are_as_told(self):
        chance = random.Random(23)
        for wood in many_woods((5, 9, 24), 6):
            net = net_of(wood)
            for turn in range(4 if len(net[0]) > 1 else 0):
                ends, colour = chance.sample(net[0], 2), chance.choice((0, 1, 5, GREAT))
                told = wood_recoloured(wood, ends[0], ends[1], colour)
                self.check(told, net_by(net[0], lambda one, other: colour if {one, other} == set(ends) else
                                        tint(net, one, other)))

    def test_no_place(self):
        for one, other in ((3, 2), (2, 3), (3, 4), (GREAT, 5)):
            self.refuse(NoPlace, wood_recoloured, FLAT, one, other, 1)
        self.refuse(NoPlace, wood_recoloured, 7, 7, 8, 1)

    def test_same_place(self):
        self.refuse(SamePlace, wood_recoloured, FLAT, 5, 5, 1)
        self.refuse(SamePlace, wood_recoloured, 7, 7, 7, 1)

    def test_no_place_comes_ahead_of_same_place(self):
        self.refuse(NoPlace, wood_recoloured, FLAT, 3, 3, 1)
        self.refuse(NoPlace, wood_recoloured, 7, 8, 8, 1)

    def test_arguments_have_their_names(self):
        self.assertEqual(wood_recoloured(wood=("flat", 4, (2, 5)), one=2, other=5, colour=9), ("flat", 9, (2, 5)))


class HandedInAndTold(unittest.TestCase):
    def test_what_is_handed_in_stays_and_what_is_done_later_changes_no_answer(self):
        for ask, handed in ((grafted, [MIXED, 5, 3]), (grafted, [FLAT, 5, PRIME]),
                            (pruned, [MIXED, [11, 0, 5, 0]]), (pruned, [7, [7]]), (with_leaf, [FLAT, 7, [4, 0, 4]]),
                            (with_leaf, [PRIME, 0, [4, 0, 4, 1]]), (wood_recoloured, [MIXED, 0, 5, 9])):
            kept = copy.deepcopy(handed)
            told = ask(*handed)
            self.assertEqual(handed, kept)
            told_then = copy.deepcopy(told)
            for thing in handed:
                if isinstance(thing, list):
                    thing.clear()
            self.assertEqual(told, told_then)
            self.assertEqual(ask(*kept), told_then)

    def test_one_after_another_they_come_to_the_wood_of_the_last_net(self):
        chance = random.Random(26)
        net, wood = net_from([50], []), 50
        for place in chance.sample(range(50), 23):
            colours = [chance.choice((0, 0, 0, 1)) for other in net[0]]
            net, wood = with_place(net, place, colours), with_leaf(wood, place, colours)
            one, other = chance.sample(net[0], 2)
            net, wood = recoloured(net, one, other, 1), wood_recoloured(wood, one, other, 1)
            if len(net[0]) % 5 == 0:
                some = [place for place in net[0] if place != other]
                net, wood = part_of(net, some), pruned(wood, some)
            self.assertTrue(is_wood(wood))
            self.assertEqual(net_of(wood), net)


if __name__ == "__main__":
    unittest.main()
