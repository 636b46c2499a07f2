import copy
import itertools
import random
import unittest

from helper import RefusalCase
from modulewood.errors import NoColours, NoNet, NoPlace, SamePlace, Taken
from modulewood.nets import colour, net_from, recoloured, with_place, without_place

GREAT = 10 ** 150
SMALL = ((2, 5, 9), ((), (1,), (3, 4)))
FULL = net_from([2 * k for k in range(24)], [(0, 2, 7)])
LONE = ((6,), ((),))


class Colour(RefusalCase):
    def test_each_two_places_from_both_sides(self):
        for one, other, told in [(2, 5, 1), (2, 9, 3), (5, 9, 4)]:
            self.assertEqual(colour(SMALL, one, other), told)
            self.assertEqual(colour(SMALL, other, one), told)

    def test_nought_where_nothing_ties_them(self):
        self.assertEqual(colour(FULL, 46, 44), 0)
        self.assertEqual(colour(FULL, 2, 0), 7)

    def test_very_great_numbers(self):
        net = net_from([GREAT, 3], [(3, GREAT, GREAT * GREAT)])
        self.assertEqual(colour(net, GREAT, 3), GREAT * GREAT)

    def test_no_place(self):
        for one, other in [(3, 2), (2, 3), (3, 4), (2, 10), (GREAT, 2), (0, 1)]:
            self.refuse(NoPlace, colour, SMALL, one, other)

    def test_same_place(self):
        self.refuse(SamePlace, colour, SMALL, 5, 5)
        self.refuse(SamePlace, colour, LONE, 6, 6)

    def test_no_place_comes_ahead_of_same_place(self):
        self.refuse(NoPlace, colour, SMALL, 3, 3)

    def test_arguments_have_their_names(self):
        self.assertEqual(colour(net=SMALL, one=2, other=9), 3)


class Recoloured(RefusalCase):
    def test_two_places_get_another_colour(self):
        self.assertEqual(recoloured(SMALL, 2, 9, 8), ((2, 5, 9), ((), (1,), (8, 4))))
        self.assertEqual(recoloured(SMALL, 9, 2, 8), ((2, 5, 9), ((), (1,), (8, 4))))
        self.assertEqual(recoloured(SMALL, 5, 2, GREAT), ((2, 5, 9), ((), (GREAT,), (3, 4))))

    def test_to_nought_and_to_the_same_colour(self):
        self.assertEqual(recoloured(SMALL, 5, 9, 0), ((2, 5, 9), ((), (1,), (3, 0))))
        self.assertEqual(recoloured(SMALL, 5, 9, 4), SMALL)

    def test_the_net_handed_in_stays(self):
        kept = copy.deepcopy(SMALL)
        recoloured(SMALL, 2, 5, 77)
        self.assertEqual(SMALL, kept)
        self.assertEqual(colour(SMALL, 2, 5), 1)

    def test_refusals(self):
        self.refuse(NoPlace, recoloured, SMALL, 3, 2, 1)
        self.refuse(NoPlace, recoloured, SMALL, 2, 3, 1)
        self.refuse(SamePlace, recoloured, SMALL, 9, 9, 1)
        self.refuse(NoPlace, recoloured, SMALL, 3, 3, 1)

    def test_arguments_have_their_names(self):
        self.assertEqual(recoloured(net=SMALL, one=2, other=9, colour=3), SMALL)


class WithPlace(RefusalCase):
    def test_behind_the_others(self):
        self.assertEqual(with_place(SMALL, 10, [6, 7, 8]), ((2, 5, 9, 10), ((), (1,), (3, 4), (6, 7, 8))))

    def test_ahead_of_the_others(self):
        self.assertEqual(with_place(SMALL, 0, [6, 7, 8]), ((0, 2, 5, 9), ((), (6,), (7, 1), (8, 3, 4))))

    def test_between_the_others(self):
        self.assertEqual(with_place(SMALL, 7, [6, 7, 8]), ((2, 5, 7, 9), ((), (1,), (6, 7), (3, 4, 8))))

    def test_the_twenty_fourth_place(self):
        net = net_from(list(range(1, 24)), [])
        more = with_place(net, 0, list(range(23)))
        self.assertEqual(more[0], tuple(range(24)))
        self.assertEqual([colour(more, 0, k) for k in range(1, 24)], list(range(23)))

    def test_to_one_place_and_very_great(self):
        self.assertEqual(with_place(LONE, GREAT, [GREAT + 5]), ((6, GREAT), ((), (GREAT + 5,))))

    def test_the_list_handed_in_stays_and_is_not_kept(self):
        colours = [6, 7, 8]
        net = with_place(SMALL, 7, colours)
        self.assertEqual(colours, [6, 7, 8])
        colours[0] = 99
        self.assertEqual(colour(net, 2, 7), 6)

    def test_no_net_where_there_are_twenty_four(self):
        self.refuse(NoNet, with_place, FULL, 1, [0] * 24)

    def test_taken(self):
        self.refuse(Taken, with_place, SMALL, 5, [0, 0, 0])
        self.refuse(Taken, with_place, SMALL, 5, [0, 0])

    def test_no_colours(self):
        for colours in ([], [1, 1], [1, 1, 1, 1]):
            self.refuse(NoColours, with_place, SMALL, 7, colours)
        self.refuse(NoColours, with_place, LONE, 7, [])

    def test_the_first_in_order_where_several_are_due(self):
        self.refuse(NoNet, with_place, FULL, 2, [0] * 24)
        self.refuse(NoNet, with_place, FULL, 1, [])
        self.refuse(NoNet, with_place, FULL, 2, [])
        self.refuse(Taken, with_place, SMALL, 2, [])
        self.refuse(Taken, with_place, SMALL, 9, [1, 1, 1, 1])

    def test_arguments_have_their_names(self):
        self.assertEqual(with_place(net=LONE, place=1, colours=[4]), ((1, 6), ((), (4,))))


class WithoutPlace(RefusalCase):
    def test_each_place(self):
        self.assertEqual(without_place(SMALL, 2), ((5, 9), ((), (4,))))
        self.assertEqual(without_place(SMALL, 5), ((2, 9), ((), (3,))))
        self.assertEqual(without_place(SMALL, 9), ((2, 5), ((), (1,))))

    def test_down_to_one_place(self):
        self.assertEqual(without_place(((1, 4), ((), (9,))), 1), ((4,), ((),)))

    def test_of_twenty_four(self):
        less = without_place(FULL, 4)
        self.assertEqual(less[0], tuple(2 * k for k in range(24) if k != 2))
        self.assertEqual(colour(less, 2, 0), 7)

    def test_no_place(self):
        self.refuse(NoPlace, without_place, SMALL, 3)

    def test_no_net_where_it_has_no_other_place(self):
        self.refuse(NoNet, without_place, LONE, 6)

    def test_no_place_comes_ahead_of_no_net(self):
        self.refuse(NoPlace, without_place, LONE, 5)

    def test_arguments_have_their_names(self):
        self.assertEqual(without_place(net=SMALL, place=2), ((5, 9), ((), (4,))))


class AgainstPlainTables(RefusalCase):
    """Many changes in a row, held against a table of pairs that is kept beside the net."""

    def check(self, net, table):
        places = sorted({place for ends in table for place in ends})
        if places:
            self.assertEqual(net[0], tuple(places))
        self.assertEqual([len(row) for row in net[1]], list(range(len(net[0]))))
        for one, other in itertools.permutations(net[0], 2):
            self.assertEqual(colour(net, one, other), table[frozenset([one, other])])

    def step(self, chance, net, table):
        deed = chance.randrange(4)
        if deed < 2 and len(net[0]) < 24:
            place = chance.choice([k for k in range(60) if k not in net[0]])
            colours = [chance.randrange(4) for other in net[0]]
            for other, tint in zip(net[0], colours):
                table[frozenset([place, other])] = tint
            return with_place(net, place, colours)
        if deed == 2 and len(net[0]) > 1:
            place = chance.choice(net[0])
            for ends in [ends for ends in table if place in ends]:
                del table[ends]
            return without_place(net, place)
        if len(net[0]) < 2:
            return net
        one, other = chance.sample(net[0], 2)
        table[frozenset([one, other])] = deed + 5
        return recoloured(net, one, other, deed + 5)

    def test_many_changes(self):
        chance = random.Random(11)
        for start in range(5):
            net, table = net_from([start], []), {}
            for turn in range(120):
                kept = copy.deepcopy(net)
                older = net
                net = self.step(chance, net, table)
                self.assertEqual(older, kept)
                self.check(net, table)
                ties = [tuple(ends) + (tint,) for ends, tint in table.items()]
                self.assertEqual(net_from(list(net[0]), ties), net)

    def test_asked_again_each_answers_the_same(self):
        for ask, handed in [(colour, (SMALL, 2, 5)), (recoloured, (SMALL, 2, 5, 9)),
                            (with_place, (SMALL, 3, [1, 2, 3])), (without_place, (SMALL, 2))]:
            told = ask(*handed)
            recoloured(FULL, 0, 2, 1)
            without_place(FULL, 0)
            self.assertEqual(ask(*handed), told)


if __name__ == "__main__":
    unittest.main()
