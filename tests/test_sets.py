import copy
import itertools
import unittest

from modulewood.errors import NetError, NoPlace, NoSet
from modulewood.nets import colour, net_from, part_of
from modulewood.sets import checked_set

GREAT = 10 ** 200
NET = ((2, 5, 9, 11), ((), (1,), (3, 4), (6, 7, 8)))


class Part(unittest.TestCase):
    def test_one_place(self):
        for place in NET[0]:
            self.assertEqual(part_of(NET, [place]), ((place,), ((),)))

    def test_all_places(self):
        self.assertEqual(part_of(NET, [2, 5, 9, 11]), NET)

    def test_some_places_with_their_colours(self):
        self.assertEqual(part_of(NET, [2, 9]), ((2, 9), ((), (3,))))
        self.assertEqual(part_of(NET, [5, 9, 11]), ((5, 9, 11), ((), (4,), (7, 8))))

    def test_in_whatever_order(self):
        for some in itertools.permutations([2, 9, 11]):
            self.assertEqual(part_of(NET, list(some)), ((2, 9, 11), ((), (3,), (6, 8))))

    def test_a_place_several_times_counts_once(self):
        self.assertEqual(part_of(NET, [9, 2, 9, 9, 2]), ((2, 9), ((), (3,))))
        self.assertEqual(part_of(NET, [5] * 40), ((5,), ((),)))

    def test_very_great_places_and_colours(self):
        net = net_from([GREAT, 1, GREAT + 1], [(GREAT, GREAT + 1, GREAT)])
        self.assertEqual(part_of(net, [GREAT + 1, GREAT]), ((GREAT, GREAT + 1), ((), (GREAT,))))

    def test_of_twenty_four_places(self):
        ties = [(i, j, 50 * i + j) for i in range(24) for j in range(i)]
        net = net_from(list(range(24)), ties)
        some = [k for k in range(24) if k % 3 != 1]
        part = part_of(net, some[::-1])
        self.assertEqual(part[0], tuple(some))
        for one, other in itertools.permutations(some, 2):
            self.assertEqual(colour(part, one, other), colour(net, one, other))

    def test_the_list_handed_in_stays_and_is_not_kept(self):
        some = [9, 2, 9]
        kept = copy.deepcopy(NET)
        part = part_of(NET, some)
        self.assertEqual(some, [9, 2, 9])
        some.append(5)
        self.assertEqual(part, ((2, 9), ((), (3,))))
        self.assertEqual(NET, kept)
        self.assertEqual(part_of(NET, [9, 2, 9]), part)

    def test_arguments_have_their_names(self):
        self.assertEqual(part_of(net=NET, some=[2]), ((2,), ((),)))


class Refused(unittest.TestCase):
    def refuse(self, refusal, some):
        kept = list(some)
        with self.assertRaises(NetError) as caught:
            part_of(NET, some)
        self.assertIs(type(caught.exception), refusal)
        self.assertIsInstance(caught.exception, ValueError)
        self.assertEqual(some, kept)

    def test_no_place_wherever_it_stands(self):
        for some in ([3], [3, 2], [2, 3], [2, 3, 5], [2, 5, 9, 11, 12], [GREAT, 2], [0], [3, 3]):
            self.refuse(NoPlace, some)

    def test_the_empty_list(self):
        self.refuse(NoSet, [])


class Checked(unittest.TestCase):
    def test_a_set_is_told_rising_and_each_place_once(self):
        self.assertEqual(checked_set((2, 5, 9), [9, 2, 9]), [2, 9])
        self.assertEqual(checked_set([2, 5, 9], [5]), [5])

    def test_the_answer_is_a_new_list(self):
        some = [2, 9]
        told = checked_set([2, 9], some)
        told.append(7)
        self.assertEqual(some, [2, 9])


if __name__ == "__main__":
    unittest.main()
