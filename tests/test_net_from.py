import copy
import itertools
import unittest

from modulewood.errors import NetError, NoNet, NoPlace, SamePlace, Twice
from modulewood.nets import net_from

GREAT = 10 ** 120
GREATEST = 10 ** 300 - 1


def every_number(thing):
    if isinstance(thing, tuple):
        return [number for part in thing for number in every_number(part)]
    return [thing]


class Made(unittest.TestCase):
    def test_one_place(self):
        self.assertEqual(net_from([0], []), ((0,), ((),)))
        self.assertEqual(net_from([7], []), ((7,), ((),)))

    def test_two_places(self):
        self.assertEqual(net_from([0, 1], []), ((0, 1), ((), (0,))))
        self.assertEqual(net_from([0, 1], [(0, 1, 5)]), ((0, 1), ((), (5,))))

    def test_a_tie_counts_from_both_ends(self):
        self.assertEqual(net_from([0, 1], [(1, 0, 5)]), net_from([0, 1], [(0, 1, 5)]))

    def test_numbers_with_gaps(self):
        net = net_from([30, 4, 17], [(4, 30, 2), (17, 4, 9)])
        self.assertEqual(net, ((4, 17, 30), ((), (9,), (2, 0))))

    def test_twenty_four_places(self):
        places = [3 * k for k in range(24)]
        ties = [(3 * j, 3 * i, 100 * i + j) for i in range(24) for j in range(i)]
        rows = tuple(tuple(100 * i + j for j in range(i)) for i in range(24))
        self.assertEqual(net_from(places, ties), (tuple(places), rows))

    def test_very_great_numbers(self):
        net = net_from([GREATEST, 0, GREAT], [(GREAT, GREATEST, GREATEST), (0, GREAT, GREAT + 1)])
        self.assertEqual(net, ((0, GREAT, GREATEST), ((), (GREAT + 1,), (0, GREATEST))))

    def test_a_tie_of_colour_nought_is_like_none(self):
        self.assertEqual(net_from([2, 3], [(3, 2, 0)]), net_from([2, 3], []))

    def test_places_and_ties_come_in_any_order(self):
        ties = [(1, 2, 4), (5, 1, 6), (8, 5, 3)]
        told = net_from([1, 2, 5, 8], ties)
        self.assertEqual(told, ((1, 2, 5, 8), ((), (4,), (6, 0), (0, 0, 3))))
        for places in itertools.permutations([1, 2, 5, 8]):
            for some in itertools.permutations(ties):
                self.assertEqual(net_from(list(places), list(some)), told)

    def test_all_is_tuples_of_whole_numbers(self):
        net = net_from([4, 0, 9], [(0, 9, 1), (4, 0, 0)])
        self.assertIs(type(net), tuple)
        self.assertEqual([type(part) for part in net], [tuple, tuple])
        self.assertEqual([type(row) for row in net[1]], [tuple] * 3)
        self.assertEqual({type(number) for number in every_number(net)}, {int})
        self.assertEqual(net[1][0], ())

    def test_what_is_handed_in_stays_as_it_was(self):
        places, ties = [5, 1, 3], [(5, 1, 2), (1, 3, 4)]
        kept = copy.deepcopy((places, ties))
        net = net_from(places, ties)
        self.assertEqual((places, ties), kept)
        places.append(9)
        ties[0] = (1, 3, 8)
        self.assertEqual(net, ((1, 3, 5), ((), (4,), (2, 0))))

    def test_asked_again_it_answers_the_same(self):
        places, ties = [5, 1, 3], [(5, 1, 2), (1, 3, 4)]
        told = net_from(places, ties)
        net_from([5, 1], [(5, 1, 7)])
        self.assertEqual(net_from(places, ties), told)

    def test_arguments_have_their_names(self):
        self.assertEqual(net_from(places=[1], ties=[]), ((1,), ((),)))


class Refused(unittest.TestCase):
    def refuse(self, refusal, places, ties):
        kept = copy.deepcopy((places, ties))
        with self.assertRaises(NetError) as caught:
            net_from(places, ties)
        self.assertIs(type(caught.exception), refusal)
        self.assertIsInstance(caught.exception, ValueError)
        self.assertEqual((places, ties), kept)

    def test_no_place(self):
        self.refuse(NoNet, [], [])

    def test_a_place_twice(self):
        self.refuse(NoNet, [1, 1], [])
        self.refuse(NoNet, [2, 1, 0, 2], [])
        self.refuse(NoNet, [GREAT, 3, GREAT], [])

    def test_twenty_five_places(self):
        self.refuse(NoNet, list(range(25)), [])
        self.assertEqual(len(net_from(list(range(24)), [])[0]), 24)

    def test_twenty_five_numbers_with_one_of_them_twice(self):
        self.refuse(NoNet, list(range(24)) + [0], [])

    def test_no_net_comes_ahead_of_every_tie(self):
        self.refuse(NoNet, [], [(0, 1, 1)])
        self.refuse(NoNet, [0, 0], [(0, 0, 1)])
        self.refuse(NoNet, list(range(25)), [(0, 99, 1)])

    def test_an_end_that_is_no_place(self):
        self.refuse(NoPlace, [0, 1], [(2, 0, 1)])
        self.refuse(NoPlace, [0, 1], [(0, 2, 1)])
        self.refuse(NoPlace, [0, 1], [(2, 3, 0)])
        self.refuse(NoPlace, [0, GREAT], [(0, GREAT + 1, 0)])

    def test_both_ends_one_place(self):
        self.refuse(SamePlace, [0, 1], [(1, 1, 0)])
        self.refuse(SamePlace, [0], [(0, 0, 3)])

    def test_no_place_comes_ahead_of_same_place(self):
        self.refuse(NoPlace, [0, 1], [(2, 2, 1)])

    def test_two_ties_with_the_same_ends(self):
        self.refuse(Twice, [0, 1], [(0, 1, 1), (0, 1, 2)])
        self.refuse(Twice, [0, 1], [(0, 1, 1), (1, 0, 2)])
        self.refuse(Twice, [0, 1], [(1, 0, 1), (0, 1, 2)])
        self.refuse(Twice, [0, 1], [(1, 0, 1), (1, 0, 1)])

    def test_ties_of_colour_nought_count_for_twice(self):
        self.refuse(Twice, [0, 1], [(0, 1, 0), (1, 0, 0)])
        self.refuse(Twice, [0, 1], [(0, 1, 0), (0, 1, 5)])

    def test_an_earlier_tie_need_not_be_the_one_just_ahead(self):
        self.refuse(Twice, [0, 1, 2], [(0, 1, 1), (1, 2, 1), (2, 0, 1), (1, 0, 1)])

    def test_the_first_bad_tie_decides(self):
        good = (0, 1, 1)
        bad = {NoPlace: (0, 9, 1), SamePlace: (2, 2, 1), Twice: (1, 0, 4)}
        for order in itertools.permutations(bad):
            ties = [good, (1, 2, 3)] + [bad[refusal] for refusal in order]
            self.refuse(order[0], [0, 1, 2], ties)

    def test_no_place_and_same_place_come_ahead_of_an_earlier_likeness(self):
        # Of one tie: the same two ends again, and these ends are bad themselves.
        self.refuse(NoPlace, [0, 1], [(0, 1, 1), (1, 9, 1), (1, 9, 1)])
        self.refuse(SamePlace, [0, 1], [(0, 1, 1), (1, 1, 1), (1, 1, 1)])


if __name__ == "__main__":
    unittest.main()
