import copy
import itertools
import random
import unittest

from helper import (GREAT, RefusalCase, all_groups, all_nets, all_sets, closed, clumped_net, looks_alike, net_by,
                    random_net, tint)
from modulewood.errors import NoPlace, NoSet
from modulewood.groups import greatest_within, is_group, pulled, teller
from modulewood.nets import net_from

ASKED = (is_group, teller, pulled, greatest_within)
LONE = ((6,), ((),))
TWO = ((3, 8), ((), (5,)))
# 2 and 5 look alike from 9 and 11, and 2, 5, 9 from 11; 2 and 5 each tell 9 and 11 apart.
SMALL = ((2, 5, 9, 11), ((), (1,), (3, 3), (6, 6, 6)))
NINE = tuple(7 * k + GREAT * (k // 5) for k in range(9))
MANY = tuple(3 * k + GREAT * (k // 13) for k in range(24))


def small_nets():
    yield LONE
    yield TWO
    yield from all_nets([4, 7, 30], [0, 1, 2])
    yield from all_nets([0, 2, 3, GREAT], [0, 1, GREAT])
    yield from all_nets([1, 2, 4, 8, 16], [0, 1])


def greater_nets(places, times):
    chance = random.Random(len(places))
    for colours in ([0, 1], [0, 3, GREAT]):
        for turn in range(times):
            yield clumped_net(chance, places, colours)
        yield random_net(chance, places, colours)


def some_sets(chance, places, times):
    for turn in range(times):
        yield sorted(chance.sample(places, chance.randrange(1, len(places) + 1)))
    for turn in range(times):
        yield sorted(chance.sample(places, min(2, len(places))))


class EachGroup(RefusalCase):
    """What each function tells of one net and one set, held against the words of points 8 to 11."""

    def check_group(self, net, some):
        told = is_group(net, some)
        self.assertIs(told, looks_alike(net, some))

    def check_teller(self, net, some):
        apart = [place for place in net[0] if place not in some
                 and len({tint(net, place, one) for one in some}) > 1]
        if not apart:
            self.assertIsNone(teller(net, some))
            return
        least = min(some)
        other = min(one for one in some if one != least and tint(net, apart[0], one) != tint(net, apart[0], least))
        told = teller(net, some)
        self.assertEqual(told, (min(apart), least, other))
        self.assertIs(type(told), tuple)

    def check_pulled(self, net, some):
        told = pulled(net, some)
        self.assertIs(type(told), tuple)
        group, pulls = told
        self.assertIs(type(group), list)
        self.assertIs(type(pulls), list)
        had = set(some)
        for pull in pulls:
            self.assertIs(type(pull), tuple)
            place, one, other = pull
            self.assertNotIn(place, had)
            self.assertIn(one, had)
            self.assertIn(other, had)
            self.assertNotEqual(tint(net, place, one), tint(net, place, other))
            had.add(place)
        self.assertEqual(group, sorted(had))
        self.assertEqual(group, closed(net, some))

    def check_within(self, net, some):
        told = greatest_within(net, some)
        self.assertIs(type(told), list)
        self.assertEqual({type(part) for part in told}, {list})
        self.assertEqual(sorted(place for part in told for place in part), sorted(some))
        self.assertEqual([part[0] for part in told], sorted(part[0] for part in told))
        for part in told:
            self.assertEqual(part, sorted(part))
            self.assertTrue(looks_alike(net, part))
        # A greater group in the set would have two places of unlike parts, and the least group about them.
        for part, later in itertools.combinations(told, 2):
            for one, other in itertools.product(part, later):
                self.assertFalse(set(closed(net, [one, other])) <= set(some))

    def check_all(self, net, some):
        self.check_group(net, some)
        self.check_teller(net, some)
        self.check_pulled(net, some)
        self.check_within(net, some)

    def test_all_sets_of_small_nets(self):
        for net in small_nets():
            for some in all_sets(net[0]):
                self.check_all(net, some)

    def test_all_sets_of_nets_of_nine_places(self):
        for net in greater_nets(NINE, 2):
            for some in all_sets(net[0]):
                self.check_group(net, some)
                self.check_teller(net, some)
                self.check_pulled(net, some)

    def test_sets_of_nets_of_nine_and_of_twenty_four_places(self):
        chance = random.Random(24)
        for places, times in ((NINE, 6), (MANY, 3)):
            for net in greater_nets(places, times):
                for some in some_sets(chance, places, 4):
                    self.check_all(net, some)

    def test_each_place_by_itself_and_all_together(self):
        for net in [LONE, TWO, SMALL] + list(greater_nets(NINE, 1)) + list(greater_nets(MANY, 1)):
            for some in [[place] for place in net[0]] + [list(net[0])]:
                self.assertIs(is_group(net, some), True)
                self.assertIsNone(teller(net, some))
                self.assertEqual(pulled(net, some), (some, []))
                self.assertEqual(greatest_within(net, some), [some])

    def test_the_least_group_is_the_least_over_all_sets(self):
        for net in all_nets([2, 3, 5, 8], [0, 4]):
            groups = all_groups(net)
            for some in all_sets(net[0]):
                about = [group for group in groups if set(some) <= set(group)]
                self.assertEqual(pulled(net, some)[0], min(about, key=len))

    def test_the_greatest_groups_within_over_all_sets(self):
        chance = random.Random(7)
        nets = list(all_nets([2, 3, 5, 8], [0, 4])) + [clumped_net(chance, [1, 4, 5, 6, 9, 12], [0, 1])
                                                       for turn in range(40)]
        for net in nets:
            groups = all_groups(net)
            for some in all_sets(net[0]):
                within = [group for group in groups if set(group) <= set(some)]
                greatest = [group for group in within if not any(set(group) < set(other) for other in within)]
                self.assertEqual(greatest_within(net, some), sorted(greatest))


class Plainly(unittest.TestCase):
    """Answers written down by hand."""

    def test_is_group(self):
        self.assertIs(is_group(SMALL, [2, 5]), True)
        self.assertIs(is_group(SMALL, [9, 11]), False)
        self.assertIs(is_group(SMALL, [2, 5, 9]), True)
        self.assertIs(is_group(SMALL, [5, 9, 11]), False)
        self.assertIs(is_group(TWO, [8, 3]), True)

    def test_teller_is_the_least_of_several(self):
        self.assertEqual(teller(SMALL, [9, 11]), (2, 9, 11))
        self.assertEqual(teller(SMALL, [5, 9, 11]), (2, 5, 9))
        self.assertEqual(teller(SMALL, [5, 9]), (2, 5, 9))
        self.assertIsNone(teller(SMALL, [2, 5]))

    def test_teller_tells_two_apart_of_which_the_second_lies_far_behind(self):
        net = net_from([0, 1, 2, 3, 4, 5], [(1, 4, 7), (5, 4, 7), (5, 3, 7)])
        self.assertEqual(teller(net, [0, 2, 3, 4]), (1, 0, 4))
        self.assertEqual(teller(net, [0, 1, 2, 3, 4]), (5, 0, 3))

    def test_the_place_nought_tells_and_is_told_of(self):
        net = net_from([0, 1, 2], [(0, 2, 3)])
        self.assertEqual(teller(net, [1, 2]), (0, 1, 2))
        self.assertEqual(teller(net, [0, 1]), (2, 0, 1))

    def test_pulled(self):
        self.assertEqual(pulled(SMALL, [2, 5]), ([2, 5], []))
        self.assertEqual(pulled(SMALL, [9, 2]), ([2, 5, 9], [(5, 2, 9)]))
        path = net_from([1, 3, 5, 7, 9], [(1, 3, 1), (3, 5, 1), (5, 7, 1)])
        group, pulls = pulled(path, [1, 3])
        self.assertEqual(group, [1, 3, 5, 7])
        self.assertEqual([pull[0] for pull in pulls], [5, 7])

    def test_pulls_that_draw_one_another(self):
        # On a path each place comes by the one ahead of it alone: twenty-two pulls in a row.
        net = net_by(MANY, lambda one, other: int(MANY.index(one) - MANY.index(other) == 1))
        group, pulls = pulled(net, [MANY[0], MANY[1]])
        self.assertEqual(group, list(MANY))
        self.assertEqual([pull[0] for pull in pulls], list(MANY[2:]))

    def test_greatest_within(self):
        self.assertEqual(greatest_within(SMALL, [2, 5, 9]), [[2, 5, 9]])
        self.assertEqual(greatest_within(SMALL, [2, 5, 11]), [[2, 5], [11]])
        self.assertEqual(greatest_within(SMALL, [11, 9, 5]), [[5], [9], [11]])
        net = net_from([0, 1, 2, 3, 4], [(4, 0, 1), (4, 2, 1)])
        self.assertEqual(greatest_within(net, [0, 1, 2, 3]), [[0, 2], [1, 3]])

    def test_groups_of_twenty_four_places(self):
        blocks = [list(MANY[8 * k:8 * k + 8]) for k in range(3)]
        place_of = {place: k for k, block in enumerate(blocks) for place in block}

        def colour_of(one, other):
            if place_of[one] != place_of[other]:
                return GREAT + place_of[one] + place_of[other]
            return int(MANY.index(one) - MANY.index(other) == 1)

        net = net_by(MANY, colour_of)
        for k, block in enumerate(blocks):
            self.assertIs(is_group(net, block[::-1]), True)
            self.assertIs(is_group(net, block[1:]), False)
            self.assertEqual(teller(net, block[1:]), (block[0], block[1], block[2]))
            self.assertEqual(pulled(net, [block[4], block[3]])[0], block)
            self.assertEqual(pulled(net, [block[4], blocks[k - 1][0]])[0], list(MANY))
        self.assertEqual(greatest_within(net, list(MANY[1:])), [[place] for place in MANY[1:8]] + blocks[1:])


class HandedInAndTold(RefusalCase):
    def test_in_any_order_and_several_times(self):
        for ask in ASKED:
            for wanted in ([2], [2, 9], [5, 9, 11], [2, 5, 9, 11]):
                told = ask(SMALL, wanted)
                for some in itertools.permutations(wanted):
                    self.assertEqual(ask(SMALL, list(some)), told)
                    self.assertEqual(ask(SMALL, list(some) + [some[0], some[-1]] * 30), told)

    def test_a_place_several_times_is_pulled_and_told_once(self):
        self.assertEqual(pulled(SMALL, [9, 2, 9, 9]), ([2, 5, 9], [(5, 2, 9)]))
        self.assertEqual(greatest_within(SMALL, [5, 11, 2, 5]), [[2, 5], [11]])

    def test_the_lists_handed_in_stay_as_they_were(self):
        for ask in ASKED:
            some, net = [9, 2, 9], copy.deepcopy(SMALL)
            ask(net, some)
            self.assertEqual((some, net), ([9, 2, 9], SMALL))

    def test_what_is_done_later_changes_no_answer(self):
        for ask in ASKED:
            some = [11, 2, 9]
            told = ask(SMALL, some)
            kept = copy.deepcopy(told)
            some.clear()
            self.assertEqual(told, kept)
            self.assertEqual(ask(SMALL, [11, 2, 9]), kept)

    def test_told_lists_are_the_askers_own(self):
        whole = [2, 5, 9, 11]
        for part in pulled(SMALL, whole) + (greatest_within(SMALL, whole), greatest_within(SMALL, whole)[0]):
            part.append(77)
        self.assertEqual(whole, [2, 5, 9, 11])
        self.assertEqual(pulled(SMALL, whole), (whole, []))
        self.assertEqual(greatest_within(SMALL, whole), [whole])
        one, other = greatest_within(SMALL, [2, 5, 11]), greatest_within(SMALL, [2, 5, 11])
        one[0].clear()
        one.clear()
        self.assertEqual(other, [[2, 5], [11]])

    def test_asked_again_each_answers_the_same(self):
        for ask in ASKED:
            told = ask(SMALL, [2, 9])
            ask(TWO, [3])
            ask(SMALL, [9, 11])
            self.assertEqual(ask(SMALL, [2, 9]), told)

    def test_arguments_have_their_names(self):
        for ask in ASKED:
            self.assertEqual(ask(net=SMALL, some=[2, 9]), ask(SMALL, [2, 9]))


class Refused(RefusalCase):
    def test_no_place_wherever_it_stands(self):
        for ask in ASKED:
            for some in ([3], [3, 2], [2, 3], [2, 5, 9, 11, 12], [GREAT], [0, 0], [2, 5, 10]):
                self.refuse(NoPlace, ask, SMALL, some)
            self.refuse(NoPlace, ask, LONE, [6, 7])

    def test_the_empty_list(self):
        for ask in ASKED:
            for net in (LONE, TWO, SMALL):
                self.refuse(NoSet, ask, net, [])


if __name__ == "__main__":
    unittest.main()
