import copy
import itertools
import random
import unittest

from helper import (FLAT, GREAT, MIXED, PRIME, THREE, WOODS, RefusalCase, all_groups, all_nets, all_sets,
                    ladder, leaves, many_woods, path_rows, wood_by_groups)
from modulewood.asked import greatest_in, group_count, groups, has_group, least_group
from modulewood.errors import NoPlace, NoSet, TooMany
from modulewood.groups import greatest_within, is_group, pulled
from modulewood.woods import is_wood, net_of

OF_SETS = (has_group, least_group, greatest_in)
SIZES = (2, 3, 5, 7)


def small_woods():
    yield from many_woods(SIZES, 8)
    for net in itertools.chain(all_nets([4, 7, 30], [0, 1, 2]), all_nets([0, 2, 3, GREAT], [0, 1])):
        yield wood_by_groups(net)


def count_by_the_words(wood):
    if isinstance(wood, int):
        return 1
    k = len(wood[2])
    return 1 + (2 ** k - k - 2 if wood[0] == "flat" else 0) + sum(count_by_the_words(branch) for branch in wood[2])


def wreath(start, widths):
    """A wood in which each flat knot, as wide as told, hangs with leaves alone on the one ahead of it."""
    wood, free = start, start + 1
    for turn, width in enumerate(widths):
        wood = ("flat", turn, (wood,) + tuple(range(free, free + width - 1)))
        free += width - 1
    return wood


class Count(unittest.TestCase):
    def test_leaves(self):
        self.assertEqual(group_count(0), 1)
        self.assertEqual(group_count(GREAT), 1)

    def test_flat_ones(self):
        self.assertEqual(group_count(("flat", 0, (0, 1))), 3)
        self.assertEqual(group_count(FLAT), 7)
        for width in range(2, 25):
            self.assertEqual(group_count(("flat", 3, tuple(range(width)))), 2 ** width - 1)

    def test_a_flat_one_of_twenty_four_places(self):
        self.assertEqual(group_count(("flat", GREAT, tuple(range(GREAT, GREAT + 24)))), 16777215)

    def test_prime_ones(self):
        self.assertEqual(group_count(PRIME), 5)
        self.assertEqual(group_count(("prime", THREE, (0, 1, 2))), 4)
        self.assertEqual(group_count(("prime", path_rows(24), tuple(range(24)))), 25)

    def test_woods_within_woods(self):
        # Eleven knots; of the three branches of the whole any two go together, besides.
        self.assertEqual(group_count(MIXED), 14)
        self.assertEqual(group_count(("flat", 1, (("flat", 0, (0, 1, 2)), 3))), 9)
        self.assertEqual(group_count(("prime", THREE, (0, ("flat", 1, (1, 2, 3, 4)), 5))), 18)
        self.assertEqual(group_count(ladder(0, 23)), 47)

    def test_a_count_over_all_sets(self):
        for wood in small_woods():
            self.assertEqual(group_count(wood), len(all_groups(net_of(wood))))

    def test_by_the_words(self):
        for wood in many_woods((9, 16, 24), 20):
            self.assertEqual(group_count(wood), count_by_the_words(wood))


class AgainstTheNet(unittest.TestCase):
    def check(self, wood, net, some):
        told = has_group(wood, some)
        self.assertIs(told, is_group(net, some))
        told = least_group(wood, some)
        self.assertIs(type(told), list)
        self.assertEqual(told, pulled(net, some)[0])
        told = greatest_in(wood, some)
        self.assertIs(type(told), list)
        self.assertEqual({type(part) for part in told}, {list})
        self.assertEqual(told, greatest_within(net, some))

    def test_all_sets_of_small_woods(self):
        for wood in small_woods():
            net = net_of(wood)
            for some in all_sets(net[0]):
                self.check(wood, net, some)

    def test_in_any_order_and_several_times(self):
        chance = random.Random(18)
        for wood in many_woods(SIZES, 4):
            net = net_of(wood)
            for some in all_sets(net[0]):
                mixed = chance.sample(some * 3, len(some) * 3)
                self.check(wood, net, mixed)
                self.check(wood, net, some[::-1])
                self.assertEqual([ask(wood, mixed) for ask in OF_SETS], [ask(wood, some) for ask in OF_SETS])

    def test_sets_of_great_woods(self):
        chance = random.Random(24)
        for wood in itertools.chain(many_woods((12, 24), 12), [ladder(0, 23)]):
            net = net_of(wood)
            for turn in range(12):
                self.check(wood, net, chance.sample(net[0], chance.randrange(1, len(net[0]) + 1)))
                self.check(wood, net, chance.sample(net[0], min(len(net[0]), 2)))

    def test_groups_of_great_woods_and_sets_near_them(self):
        chance = random.Random(25)
        for wood in many_woods((9, 24), 12):
            net = net_of(wood)
            for turn in range(8):
                group = least_group(wood, chance.sample(net[0], min(len(net[0]), chance.randrange(1, 5))))
                place = chance.choice(net[0])
                self.check(wood, net, group)
                self.check(wood, net, group + [place])
                if len(group) > 1:
                    self.check(wood, net, chance.sample(group, len(group) - 1))


class Plainly(unittest.TestCase):
    """Answers written down by hand."""

    def test_of_a_leaf(self):
        for place in (0, 7, GREAT):
            self.assertIs(has_group(place, [place]), True)
            self.assertEqual(least_group(place, [place, place]), [place])
            self.assertEqual(greatest_in(place, [place]), [[place]])

    def test_has_group(self):
        for some in ([0], [4], [4, 11], [9, GREAT], [0, 4, 6, 11], [5, 9, GREAT], [0, 4, 5, 6, 11],
                     [0, 4, 6, 9, 11, GREAT], [0, 4, 5, 6, 9, 11, GREAT]):
            self.assertIs(has_group(MIXED, some), True, some)
        for some in ([0, 4], [0, 6], [4, 6, 11], [5, 9], [5, GREAT], [0, 5], [4, 5, 11], [4, 9, 11, GREAT],
                     [0, 4, 6, 9, 11]):
            self.assertIs(has_group(MIXED, some), False, some)

    def test_least_group(self):
        self.assertEqual(least_group(FLAT, [9, 2]), [2, 9])
        self.assertEqual(least_group(PRIME, [8, 1]), [1, 3, 6, 8])
        self.assertEqual(least_group(MIXED, [11]), [11])
        self.assertEqual(least_group(MIXED, [11, 4]), [4, 11])
        self.assertEqual(least_group(MIXED, [11, 6]), [0, 4, 6, 11])
        self.assertEqual(least_group(MIXED, [11, 5]), [0, 4, 5, 6, 11])
        self.assertEqual(least_group(MIXED, [5, 9]), [5, 9, GREAT])
        self.assertEqual(least_group(MIXED, [5, 9, 4]), [0, 4, 5, 6, 9, 11, GREAT])

    def test_greatest_in(self):
        self.assertEqual(greatest_in(FLAT, [9, 2]), [[2, 9]])
        self.assertEqual(greatest_in(PRIME, [8, 3, 1]), [[1], [3], [8]])
        self.assertEqual(greatest_in(MIXED, [0, 4, 11, 5]), [[0], [4, 11], [5]])
        self.assertEqual(greatest_in(MIXED, [0, 4, 5, 9, GREAT]), [[0], [4], [5, 9, GREAT]])
        self.assertEqual(greatest_in(MIXED, [0, 4, 5, 6, 9, 11]), [[0, 4, 5, 6, 11], [9]])
        self.assertEqual(greatest_in(MIXED, leaves(MIXED)), [sorted(leaves(MIXED))])

    def test_by_their_least_places(self):
        wood = ("flat", 0, (("prime", THREE, (0, ("flat", 1, (3, 90)), 50)), 2, 4, ("flat", 1, (60, 70, 80))))
        self.assertEqual(greatest_in(wood, [70, 4, 90, 3, 2, 50, 80]), [[2, 4], [3, 90], [50], [70, 80]])


class Groups(unittest.TestCase):
    def test_of_a_leaf(self):
        self.assertEqual(groups(7, 0), ([], False))
        self.assertEqual(groups(7, 1), ([[7]], True))
        self.assertEqual(groups(7, 2), ([[7]], True))

    def test_written_down(self):
        self.assertEqual(groups(FLAT, 9), ([[2], [5], [9], [2, 5], [2, 9], [5, 9], [2, 5, 9]], True))
        self.assertEqual(groups(FLAT, 5), ([[2], [5], [9], [2, 5], [2, 9]], False))
        self.assertEqual(groups(PRIME, 5), ([[1], [3], [6], [8], [1, 3, 6, 8]], True))
        self.assertEqual(groups(MIXED, 12), ([
            [0], [4], [5], [6], [9], [11], [GREAT], [4, 11], [9, GREAT], [5, 9, GREAT], [0, 4, 6, 11],
            [0, 4, 5, 6, 11]], False))

    def test_as_lists_of_numbers_where_they_have_as_many_places(self):
        wood = ("flat", 0, (("flat", 1, (2, 30)), ("flat", 1, (4, 5)), 10, 100))
        self.assertEqual(groups(wood, 20), ([
            [2], [4], [5], [10], [30], [100], [2, 30], [4, 5], [10, 100], [2, 10, 30], [2, 30, 100], [4, 5, 10],
            [4, 5, 100], [2, 4, 5, 30], [2, 10, 30, 100], [4, 5, 10, 100], [2, 4, 5, 10, 30], [2, 4, 5, 30, 100],
            [2, 4, 5, 10, 30, 100]], True))

    def check(self, wood, most, sets, are_all):
        told = groups(wood, most)
        self.assertIs(type(told), tuple)
        self.assertEqual(len(told), 2)
        self.assertIs(type(told[0]), list)
        self.assertEqual(told[0], sets)
        self.assertLessEqual({type(some) for some in told[0]}, {list})
        self.assertIs(told[1], are_all)

    def test_so_many_or_all(self):
        for wood in small_woods():
            sets = all_groups(net_of(wood))
            for most in (0, 1, len(sets) - 1, len(sets) // 2):
                self.check(wood, most, sets[:most], most == len(sets))
            for most in (len(sets), len(sets) + 1, 4000, 4001, 10 ** 299):
                self.check(wood, most, sets, True)

    def test_every_one_of_a_great_wood(self):
        for wood in many_woods((9, 24), 12):
            if group_count(wood) <= 4000:
                sets, are_all = groups(wood, 4000)
                self.assertIs(are_all, True)
                self.assertEqual(len(sets), group_count(wood))
                self.assertEqual(len({tuple(some) for some in sets}), len(sets))
                self.assertEqual(sets, sorted(sets, key=lambda some: (len(some), some)))
                net = net_of(wood)
                for some in sets[::7]:
                    self.assertTrue(is_group(net, some))


class HowManyAreTooMany(RefusalCase):
    # Woods of at most 24 places have 3,099 groups or fewer, or 4,093 or more: what lies between takes more places.
    def check_told(self, wood, count):
        self.assertEqual(group_count(wood), count)
        sets, are_all = groups(wood, count)
        self.assertEqual((len(sets), are_all), (count, True))
        self.assertEqual(len({tuple(some) for some in sets}), count)
        self.assertEqual(sets, sorted(sets, key=lambda some: (len(some), some)))
        self.assertEqual(groups(wood, count - 1), (sets[:-1], False))
        self.assertEqual(groups(wood, 0), ([], False))

    def check_refused(self, wood, count):
        self.assertEqual(group_count(wood), count)
        for most in (0, 1, 3999, 4000, 4001, count, GREAT):
            self.refuse(TooMany, groups, wood, most)

    def test_of_twenty_four_places(self):
        few, many = wreath(0, (11, 10, 5)), wreath(0, (11, 11, 2, 2, 2))
        for wood in (few, many):
            self.assertTrue(is_wood(wood))
        self.check_told(few, 3099)
        self.check_refused(many, 4099)
        self.check_refused(wreath(0, (11, 11)), 4093)

    def test_flat_ones(self):
        self.check_told(("flat", 0, tuple(range(11))), 2047)
        self.check_refused(("flat", 0, tuple(range(12))), 4095)
        self.check_refused(("flat", 0, tuple(range(24))), 16777215)

    def test_just_four_thousand_and_the_ones_beside(self):
        inner = wreath(0, (11, 10, 9, 8, 7, 5, 3))
        self.assertEqual(group_count(inner), 3995)
        for length in range(4, 8):
            wood = ("prime", path_rows(length), (inner,) + tuple(range(50, 49 + length)))
            check = self.check_told if length < 6 else self.check_refused
            check(wood, 3995 + length)

    def test_what_else_is_asked_of_such_woods_is_told(self):
        wood = ("flat", 0, tuple(range(24)))
        self.assertIs(has_group(wood, [3, 20]), True)
        self.assertEqual(least_group(wood, [20, 3]), [3, 20])
        self.assertEqual(greatest_in(wood, [20, 3, 4]), [[3, 4, 20]])


class Refused(RefusalCase):
    def test_no_place_wherever_it_stands(self):
        for ask in OF_SETS:
            for some in ([3], [3, 2], [2, 3], [2, 5, 9, 11], [GREAT], [0, 0], [9, 5, 2, 4]):
                self.refuse(NoPlace, ask, FLAT, some)
            for some in ([1], [7], [0, 4, 6, 11, 7], [GREAT + 1], [GREAT, 2]):
                self.refuse(NoPlace, ask, MIXED, some)
            self.refuse(NoPlace, ask, 6, [7])
            self.refuse(NoPlace, ask, 6, [6, 7])
            # Four stands in the wood as a colour alone, and nought and one in its rows.
            self.refuse(NoPlace, ask, FLAT, [4])
            self.refuse(NoPlace, ask, PRIME, [0])

    def test_the_empty_list(self):
        for ask in OF_SETS:
            for wood in WOODS:
                self.refuse(NoSet, ask, wood, [])


class HandedInAndTold(unittest.TestCase):
    def test_the_lists_handed_in_stay_as_they_were(self):
        for ask in OF_SETS:
            some, wood = [11, 0, 11, 5], copy.deepcopy(MIXED)
            ask(wood, some)
            self.assertEqual((some, wood), ([11, 0, 11, 5], MIXED))

    def test_what_is_done_later_changes_no_answer(self):
        for ask in OF_SETS:
            for handed in ([11, 0, 5], [5], [9, GREAT], leaves(MIXED)):
                some = list(handed)
                told = ask(MIXED, some)
                kept = copy.deepcopy(told)
                some.clear()
                self.assertEqual(told, kept)
                self.assertEqual(ask(MIXED, handed), kept)

    def test_told_lists_are_the_askers_own(self):
        for some in ([4, 11], [0, 9], sorted(leaves(MIXED))):
            for ask in (lambda: least_group(MIXED, some), lambda: greatest_in(MIXED, some)):
                handed, told, kept = list(some), ask(), copy.deepcopy(ask())
                if isinstance(told[0], list):
                    told[0].append(77)
                told.append(77)
                self.assertEqual((some, ask()), (handed, kept))

    def test_told_groups_are_the_askers_own(self):
        for wood in WOODS:
            told, kept = groups(wood, 20), copy.deepcopy(groups(wood, 20))
            for some in told[0]:
                some.append(77)
                self.assertEqual(sum(77 in other for other in told[0]), 1)
                some.pop()
            for some in told[0]:
                some.clear()
            told[0].clear()
            self.assertEqual(groups(wood, 20), kept)

    def test_asked_again_each_answers_the_same(self):
        for wood in WOODS:
            some = leaves(wood)[:2]
            told = [ask(wood, some) for ask in OF_SETS] + [group_count(wood), groups(wood, 3)]
            groups(MIXED, 20)
            least_group(MIXED, [0, 9])
            self.assertEqual([ask(wood, some) for ask in OF_SETS] + [group_count(wood), groups(wood, 3)], told)

    def test_arguments_have_their_names(self):
        for ask in OF_SETS:
            self.assertEqual(ask(wood=MIXED, some=[0, 5]), ask(MIXED, [0, 5]))
        self.assertEqual(group_count(wood=MIXED), 14)
        self.assertEqual(groups(wood=FLAT, most=1), ([[2]], False))


if __name__ == "__main__":
    unittest.main()
