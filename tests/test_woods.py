import copy
import itertools
import unittest

from helper import (FLAT, GREAT, MIXED, PATH, PRIME, WOODS, RefusalCase, leaves, looks_alike, many_woods, net_by,
                    path_rows)
from modulewood.errors import NoPlace, SamePlace
from modulewood.woods import colour_in, is_wood, knots, net_of, places_of

SIZES = (2, 3, 5, 9, 24)


def all_knots(wood):
    return [wood] + ([] if isinstance(wood, int) else [knot for branch in wood[2] for knot in all_knots(branch)])


def colour_by_the_smallest_knot(wood, one, other):
    both = [knot for knot in all_knots(wood) if {one, other} <= set(leaves(knot))]
    word, told, branches = min(both, key=lambda knot: len(leaves(knot)))
    i, = [k for k, branch in enumerate(branches) if one in leaves(branch)]
    j, = [k for k, branch in enumerate(branches) if other in leaves(branch)]
    return told if word == "flat" else told[max(i, j)][min(i, j)]


class Places(unittest.TestCase):
    def test_written_down(self):
        self.assertEqual(places_of(0), [0])
        self.assertEqual(places_of(GREAT), [GREAT])
        self.assertEqual(places_of(FLAT), [2, 5, 9])
        self.assertEqual(places_of(PRIME), [1, 3, 6, 8])

    def test_rising_where_branches_lie_within_one_another(self):
        self.assertEqual(places_of(MIXED), [0, 4, 5, 6, 9, 11, GREAT])
        self.assertEqual(places_of(("flat", 0, (("flat", 1, (0, 9)), 3, ("flat", 2, (4, 5))))), [0, 3, 4, 5, 9])

    def test_of_many(self):
        for wood in many_woods(SIZES, 8):
            told = places_of(wood)
            self.assertIs(type(told), list)
            self.assertEqual(told, sorted(leaves(wood)))


class Colour(RefusalCase):
    def test_written_down(self):
        for wood, one, other, told in ((FLAT, 2, 9, 4), (PRIME, 1, 3, 1), (PRIME, 1, 8, 0), (PRIME, 6, 8, 1),
                                       (MIXED, 0, 4, 1), (MIXED, 0, 11, 1), (MIXED, 0, 6, 2), (MIXED, 11, 6, 3),
                                       (MIXED, 4, 11, 7), (MIXED, 5, 6, 7), (MIXED, 9, GREAT, GREAT),
                                       (MIXED, 0, GREAT, 7)):
            self.assertEqual(colour_in(wood, one, other), told)
            self.assertEqual(colour_in(wood, other, one), told)

    def test_what_the_smallest_knot_tells_from_both_sides(self):
        for wood in many_woods(SIZES, 8):
            for one, other in itertools.permutations(leaves(wood), 2):
                self.assertEqual(colour_in(wood, one, other), colour_by_the_smallest_knot(wood, one, other))

    def test_no_place(self):
        for one, other in ((0, 2), (2, 0), (3, 4), (GREAT, 5)):
            self.refuse(NoPlace, colour_in, FLAT, one, other)
        self.refuse(NoPlace, colour_in, 0, 0, 1)
        self.refuse(NoPlace, colour_in, 0, 1, 0)

    def test_same_place(self):
        self.refuse(SamePlace, colour_in, FLAT, 5, 5)
        self.refuse(SamePlace, colour_in, MIXED, 11, 11)
        self.refuse(SamePlace, colour_in, 3, 3, 3)

    def test_no_place_comes_ahead_of_same_place(self):
        self.refuse(NoPlace, colour_in, FLAT, 4, 4)
        self.refuse(NoPlace, colour_in, 3, 4, 4)


class Net(unittest.TestCase):
    def test_written_down(self):
        self.assertEqual(net_of(0), ((0,), ((),)))
        self.assertEqual(net_of(GREAT), ((GREAT,), ((),)))
        self.assertEqual(net_of(FLAT), ((2, 5, 9), ((), (4,), (4, 4))))
        self.assertEqual(net_of(PRIME), ((1, 3, 6, 8), PATH))
        self.assertEqual(net_of(MIXED), ((0, 4, 5, 6, 9, 11, GREAT), (
            (), (1,), (7, 7), (2, 3, 7), (7, 7, 7, 7), (1, 7, 7, 3, 7), (7, 7, 7, 7, GREAT, 7))))

    def test_twenty_four_places(self):
        places = tuple(GREAT + 2 * k for k in range(24))
        self.assertEqual(net_of(("prime", path_rows(24), places)), (places, path_rows(24)))
        self.assertEqual(net_of(("flat", GREAT, places)), net_by(places, lambda one, other: GREAT))

    def test_of_many(self):
        for wood in many_woods(SIZES, 8):
            told = net_of(wood)
            self.assertEqual(told, net_by(leaves(wood), lambda a, b: colour_by_the_smallest_knot(wood, a, b)))
            self.assertEqual([type(part) for part in told], [tuple, tuple])
            self.assertEqual({type(row) for row in told[1]}, {tuple})


class Knots(unittest.TestCase):
    def test_written_down(self):
        self.assertEqual(knots(0), [[0]])
        self.assertEqual(knots(FLAT), [[2], [5], [9], [2, 5, 9]])
        self.assertEqual(knots(PRIME), [[1], [3], [6], [8], [1, 3, 6, 8]])
        self.assertEqual(knots(MIXED), [[0], [4], [5], [6], [9], [11], [GREAT], [4, 11], [9, GREAT], [0, 4, 6, 11],
                                        [0, 4, 5, 6, 9, 11, GREAT]])

    def test_as_lists_of_numbers_where_they_have_as_many_places(self):
        wood = ("flat", 0, (("flat", 1, (2, 30)), ("flat", 1, (4, 5)), ("flat", 1, (10, 11, 12)), 100))
        self.assertEqual(knots(wood), [[2], [4], [5], [10], [11], [12], [30], [100], [2, 30], [4, 5], [10, 11, 12],
                                       [2, 4, 5, 10, 11, 12, 30, 100]])

    def test_of_many(self):
        for wood in many_woods(SIZES, 8):
            told = knots(wood)
            self.assertIs(type(told), list)
            self.assertEqual({type(knot) for knot in told}, {list})
            self.assertEqual(told, sorted([sorted(leaves(knot)) for knot in all_knots(wood)],
                                          key=lambda some: (len(some), some)))
            self.assertEqual(len({tuple(knot) for knot in told}), len(told))

    def test_each_is_a_group_of_the_net(self):
        for wood in many_woods(SIZES, 8):
            net = net_of(wood)
            for knot in knots(wood):
                self.assertTrue(looks_alike(net, knot))


class HandedInAndTold(unittest.TestCase):
    def test_woods_handed_in_stay_and_asked_again_each_answers_the_same(self):
        for wood in WOODS:
            kept = copy.deepcopy(wood)
            for ask in (places_of, net_of, knots, is_wood):
                told = ask(wood)
                ask(FLAT)
                self.assertEqual(ask(wood), told)
                self.assertEqual(wood, kept)
        self.assertEqual([colour_in(MIXED, 0, 6), colour_in(MIXED, 0, 6)], [2, 2])

    def test_told_lists_are_the_askers_own(self):
        for wood in WOODS:
            places, sets = places_of(wood), knots(wood)
            kept = copy.deepcopy((places, sets))
            for knot in sets:
                knot.append(77)
            sets.pop()
            places.clear()
            self.assertEqual((places_of(wood), knots(wood)), kept)

    def test_arguments_have_their_names(self):
        self.assertEqual(places_of(wood=7), [7])
        self.assertEqual(colour_in(wood=FLAT, one=2, other=5), 4)
        self.assertEqual(net_of(wood=7), ((7,), ((),)))
        self.assertEqual(knots(wood=7), [[7]])
        self.assertIs(is_wood(thing=7), True)


if __name__ == "__main__":
    unittest.main()
