import copy
import itertools
import random
import unittest

from helper import (GREAT, PATH, RefusalCase, all_groups, all_nets, all_sets, came_and_fell, clumped_net, closed,
                    drawn_deed, inner_knots, path_rows, put_in, taken_out, tied, tint, wood_by_groups)
from modulewood.asked import greatest_in, group_count, has_group, least_group
from modulewood.errors import NoColours, NoDeed, NoNet, NoPlace, NoSet, SamePlace, Taken
from modulewood.groups import greatest_within, is_group, pulled, teller
from modulewood.grove import Grove
from modulewood.woods import is_wood, net_of

LONE = ([], [])


def grown(net):
    """A grove that has come to this net place by place."""
    grove = Grove(net[0][0])
    for i in range(1, len(net[0])):
        grove.put(net[0][i], list(net[1][i]))
    return grove


def done(grove, deed):
    return getattr(grove, deed[0])(*deed[1:])


def small_nets():
    return itertools.chain(all_nets([7], [0]), all_nets([3, 7], [0, 5]), all_nets([0, 4, 9], [0, 1, 2]),
                           all_nets([2, 3, 5, 8], [0, 1]))


class GroveCase(RefusalCase):
    def stands(self, grove, net):
        """A net has just one wood: so what is a wood and has this net is the one."""
        self.assertEqual(grove.net(), net)
        self.assertTrue(is_wood(grove.wood()))
        self.assertEqual(net_of(grove.wood()), net)

    def answers(self, told, ahead, behind):
        self.assertEqual(told, came_and_fell(ahead, behind))
        self.assertIs(type(told), tuple)


class Deeds(GroveCase):
    def test_one_place_at_first(self):
        for place in (0, 7, GREAT):
            grove = Grove(place)
            self.assertEqual(grove.net(), ((place,), ((),)))
            self.assertEqual(grove.wood(), place)
            self.assertEqual(grove.group_count(), 1)

    def test_written_down(self):
        grove = Grove(4)
        self.assertEqual(grove.put(9, [1]), ([[4, 9]], []))
        self.assertEqual(grove.wood(), ("flat", 1, (4, 9)))
        self.assertEqual(grove.put(2, [1, 1]), ([[2, 4, 9]], [[4, 9]]))
        self.assertEqual(grove.wood(), ("flat", 1, (2, 4, 9)))
        self.assertEqual(grove.put(6, [0, 1, 1]), ([[2, 6], [2, 4, 6, 9]], [[2, 4, 9]]))
        self.assertEqual(grove.wood(), ("flat", 1, (("flat", 0, (2, 6)), 4, 9)))
        self.assertEqual(grove.tie(9, 2, 0), ([[6, 9], [2, 6, 9]], [[2, 6]]))
        self.assertEqual(grove.wood(), ("flat", 1, (("flat", 0, (2, ("flat", 1, (6, 9)))), 4)))
        self.assertEqual(grove.net(), ((2, 4, 6, 9), ((), (1,), (0, 1), (0, 1, 1))))

    def test_take(self):
        grove = grown(((1, 3, 6, 8), PATH))
        self.assertEqual(grove.take(8), ([[1, 6], [1, 3, 6]], [[1, 3, 6, 8]]))
        self.assertEqual(grove.wood(), ("flat", 1, (("flat", 0, (1, 6)), 3)))
        self.assertEqual(grove.take(3), ([], [[1, 3, 6]]))
        self.assertEqual(grove.take(1), ([], [[1, 6]]))
        self.assertEqual(grove.wood(), 6)
        self.assertEqual(grove.net(), ((6,), ((),)))

    def test_tie(self):
        grove = grown(((1, 3, 6, 8), PATH))
        self.assertEqual(grove.tie(6, 3, 0), ([[1, 3], [6, 8]], []))
        self.assertEqual(grove.wood(), ("flat", 0, (("flat", 1, (1, 3)), ("flat", 1, (6, 8)))))
        self.assertEqual(grove.tie(3, 6, 1), ([], [[1, 3], [6, 8]]))
        self.assertEqual(grove.wood(), ("prime", PATH, (1, 3, 6, 8)))

    def test_the_colours_come_in_the_order_of_the_places(self):
        grove = Grove(9)
        grove.put(2, [5])
        grove.put(4, [6, 7])
        self.assertEqual(grove.net(), ((2, 4, 9), ((), (6,), (5, 7))))

    def test_the_order_of_what_came_and_fell(self):
        grove = Grove(0)
        for place in range(1, 8):
            grove.put(place, [0] * place)
        self.assertEqual(grove.tie(5, 6, 1), ([[5, 6]], []))
        self.assertEqual(grove.tie(1, 2, 1), ([[1, 2]], []))
        grove.tie(0, 3, 1)
        self.assertEqual(grove.take(7), ([list(range(7))], [list(range(8))]))
        self.assertEqual(grove.put(30, [0, 0, 0, 0, 0, 1, 0]), ([[6, 30], [5, 6, 30], list(range(7)) + [30]],
                                                                [[5, 6], list(range(7))]))

    def test_several_of_each_length_come_and_fall_in_order(self):
        grove = Grove(20)
        grove.put(10, [0])
        grove.put(21, [0, 1])
        grove.put(11, [1, 0, 0])
        grove.put(2, [0] * 4)
        self.assertEqual(inner_knots(grove.wood()), [[10, 11], [20, 21], [2, 10, 11, 20, 21]])
        # 9 and 10 have fewer figures than 11 and yet come ahead of it: numbers, not texts, are put in order.
        told = grove.put(9, [0, 5, 6, 0, 0])
        self.assertEqual(told, ([[9, 10, 11], [2, 9, 10, 11, 20, 21]], [[10, 11], [2, 10, 11, 20, 21]]))
        self.assertEqual(grove.back(), ([[10, 11], [2, 10, 11, 20, 21]], [[9, 10, 11], [2, 9, 10, 11, 20, 21]]))
        self.assertEqual(grove.take(2), ([[10, 11, 20, 21]], [[2, 10, 11, 20, 21]]))
        self.assertEqual(grove.tie(10, 20, 7), ([], [[10, 11], [20, 21]]))
        self.assertEqual(grove.tie(20, 10, 0), ([[10, 11], [20, 21]], []))

    def test_a_knot_of_the_same_places_neither_came_nor_fell(self):
        grove = Grove(1)
        grove.put(3, [4])
        self.assertEqual(grove.tie(1, 3, 5), LONE)
        self.assertEqual(grove.wood(), ("flat", 5, (1, 3)))
        self.assertEqual(grove.put(2, [6, 6]), ([[1, 2, 3]], []))
        self.assertEqual(grove.tie(1, 2, 7), ([], [[1, 3]]))
        self.assertEqual(grove.wood(), ("prime", ((), (7,), (5, 6)), (1, 2, 3)))
        self.assertEqual(grove.tie(1, 2, 8), LONE)
        self.assertEqual(grove.wood(), ("prime", ((), (8,), (5, 6)), (1, 2, 3)))
        self.assertEqual(grove.tie(1, 2, 6), ([[1, 3]], []))
        self.assertEqual(grove.tie(1, 3, 6), ([], [[1, 3]]))
        self.assertEqual(grove.wood(), ("flat", 6, (1, 2, 3)))

    def test_a_deed_that_changes_nothing(self):
        grove = grown(((1, 3, 6, 8), PATH))
        net, wood = grove.net(), grove.wood()
        for one, other in itertools.permutations((1, 3, 6, 8), 2):
            self.assertEqual(grove.tie(one, other, tint(net, one, other)), LONE)
            self.assertEqual((grove.net(), grove.wood()), (net, wood))

    def test_every_deed_on_small_nets(self):
        for net in small_nets():
            ahead = wood_by_groups(net)
            behind = [(("take", place), taken_out(net, place)) for place in net[0] if len(net[0]) > 1]
            behind += [(("tie", one, other, colour), tied(net, (one, other), colour))
                       for one, other in itertools.permutations(net[0], 2) for colour in (0, 1, GREAT)]
            behind += [(("put", place, list(colours)), put_in(net, place, colours)) for place in (1, GREAT)
                       for colours in itertools.product((0, 1), repeat=len(net[0]))]
            grove = grown(net)
            self.assertEqual(grove.wood(), ahead)
            for deed, changed in behind:
                self.answers(done(grove, deed), ahead, wood_by_groups(changed))
                self.assertEqual((grove.net(), grove.wood()), (changed, wood_by_groups(changed)))
                self.answers(grove.back(), wood_by_groups(changed), ahead)
                self.assertEqual((grove.net(), grove.wood()), (net, ahead))

    def test_a_long_drawn_row_of_deeds(self):
        for seed, places, colours in ((1, range(8), (0, 1)), (2, range(0, 90, 3), (0, 0, 0, 1)),
                                      (3, [GREAT + k for k in range(40)], (0, 1, 2, GREAT))):
            chance = random.Random(seed)
            grove = Grove(places[0])
            net, wood = ((places[0],), ((),)), places[0]
            for turn in range(100):
                deed, net = drawn_deed(chance, net, places, colours)
                told = done(grove, deed)
                self.stands(grove, net)
                self.answers(told, wood, grove.wood())
                wood = grove.wood()

    def test_twenty_four_places(self):
        chance = random.Random(4)
        places = chance.sample(range(100), 24)
        net = clumped_net(chance, places, (0, 1))
        grove = Grove(places[0])
        for i in range(1, 24):
            ahead, known = grove.wood(), sorted(places[:i])
            told = grove.put(places[i], [tint(net, places[i], other) for other in known])
            self.answers(told, ahead, grove.wood())
        self.stands(grove, net)
        self.refuse(NoNet, grove.put, 100, [0] * 24)
        for turn in range(20):
            deed, net = drawn_deed(chance, net, range(100), (0, 1, 2))
            ahead = grove.wood()
            self.answers(done(grove, deed), ahead, grove.wood())
            self.stands(grove, net)
        grove = grown((tuple(range(24)), path_rows(24)))
        self.assertEqual(grove.wood(), ("prime", path_rows(24), tuple(range(24))))
        self.assertEqual(grove.tie(0, 23, 1), LONE)
        self.assertEqual(grove.take(0), ([list(range(1, 24))], [list(range(24))]))

    def test_arguments_have_their_names(self):
        grove = Grove(place=3)
        self.assertEqual(grove.put(place=5, colours=[2]), ([[3, 5]], []))
        self.assertEqual(grove.tie(one=3, other=5, colour=4), LONE)
        for ask in (grove.least_group, grove.has_group, grove.greatest_in, grove.teller):
            ask(some=[3])
        self.assertEqual(grove.take(place=5), ([], [[3, 5]]))


class Refused(GroveCase):
    """Behind each refusal everything is as it was, also what going back leads to."""

    def setUp(self):
        self.grove = grown(((2, 5, 9), ((), (1,), (3, 4))))
        self.grove.tie(2, 5, 6)

    def tearDown(self):
        net = ((2, 5, 9), ((), (6,), (3, 4)))
        self.stands(self.grove, net)
        self.assertEqual(self.grove.group_count(), 4)
        self.assertEqual(self.grove.back(), LONE)
        self.stands(self.grove, ((2, 5, 9), ((), (1,), (3, 4))))
        self.assertEqual(self.grove.back(), ([[2, 5]], [[2, 5, 9]]))
        self.assertEqual(self.grove.back(), ([], [[2, 5]]))
        self.refuse(NoDeed, self.grove.back)
        self.stands(self.grove, ((2,), ((),)))

    def test_put(self):
        for place in (2, 5, 9):
            self.refuse(Taken, self.grove.put, place, [0, 0, 0])
        for colours in ([], [0], [0, 0], [0] * 4, [0] * 24):
            self.refuse(NoColours, self.grove.put, 7, colours)

    def test_put_taken_ahead_of_no_colours(self):
        for colours in ([], [0], [0] * 4):
            self.refuse(Taken, self.grove.put, 5, colours)

    def test_take(self):
        for place in (0, 3, 10, GREAT):
            self.refuse(NoPlace, self.grove.take, place)

    def test_tie(self):
        for one, other in ((2, 3), (3, 2), (0, 1), (3, 3), (GREAT, 9)):
            self.refuse(NoPlace, self.grove.tie, one, other, 0)
        for place in (2, 5, 9):
            self.refuse(SamePlace, self.grove.tie, place, place, 0)

    def test_asked(self):
        for ask in (self.grove.least_group, self.grove.has_group, self.grove.greatest_in, self.grove.teller):
            for some in ([3], [2, 5, 9, 3], [0, 2], [GREAT]):
                self.refuse(NoPlace, ask, some)
            self.refuse(NoSet, ask, [])


class RefusedAtTheEdges(GroveCase):
    def test_put_with_twenty_four_places(self):
        grove = Grove(0)
        for place in range(1, 24):
            grove.put(place, [0] * place)
        full, deeper = grove.net(), grove.wood()
        for place in (24, 0, 23, GREAT):
            for colours in ([0] * 24, [], [0] * 25):
                self.refuse(NoNet, grove.put, place, colours)
        self.assertEqual((grove.net(), grove.wood()), (full, deeper))
        grove.take(11)
        grove.put(24, [0] * 23)
        self.refuse(NoNet, grove.put, 11, [0] * 24)

    def test_take_of_the_only_place(self):
        grove = Grove(5)
        self.refuse(NoNet, grove.take, 5)
        self.refuse(NoPlace, grove.take, 6)
        self.refuse(SamePlace, grove.tie, 5, 5, 0)
        self.refuse(NoPlace, grove.tie, 5, 6, 0)
        self.refuse(NoPlace, grove.tie, 6, 6, 0)
        self.refuse(NoColours, grove.put, 6, [])
        self.refuse(Taken, grove.put, 5, [0])
        self.stands(grove, ((5,), ((),)))
        self.refuse(NoDeed, grove.back)


class Asked(GroveCase):
    def test_all_sets_of_small_nets(self):
        for net in itertools.chain(small_nets(), [((0, 2, 4, 6, 9), path_rows(5))]):
            grove = grown(net)
            found = all_groups(net)
            self.assertEqual(grove.group_count(), len(found))
            for some in all_sets(net[0]):
                self.assertIs(grove.has_group(some), some in found)
                self.assertEqual(grove.least_group(some), closed(net, some))
                self.assertEqual(grove.teller(some), teller(net, some))
                within = [group for group in found if set(group) <= set(some)]
                greatest = [group for group in within if not any(set(group) < set(other) for other in within)]
                self.assertEqual(grove.greatest_in(some), sorted(greatest, key=min))

    def test_great_ones_while_deeds_are_done(self):
        chance = random.Random(22)
        grove, net = Grove(0), ((0,), ((),))
        for turn in range(120):
            deed, net = drawn_deed(chance, net, range(40), (0, 0, 0, 1))
            done(grove, deed)
            for length in (1, 2, 3, 8):
                some = [chance.choice(net[0]) for k in range(length)]
                self.assertEqual(grove.least_group(some), pulled(net, some)[0])
                self.assertIs(grove.has_group(some), is_group(net, some))
                self.assertEqual(grove.greatest_in(some), greatest_within(net, some))
                self.assertEqual(grove.teller(some), teller(net, some))
                self.assertIs(grove.has_group(grove.least_group(some)), True)

    def test_as_the_wood_tells(self):
        grove = grown(((1, 3, 6, 8), PATH))
        for some in all_sets((1, 3, 6, 8)):
            self.assertEqual(grove.least_group(some), least_group(grove.wood(), some))
            self.assertEqual(grove.has_group(some), has_group(grove.wood(), some))
            self.assertEqual(grove.greatest_in(some), greatest_in(grove.wood(), some))
        self.assertEqual(grove.group_count(), group_count(grove.wood()))

    def test_in_any_order_and_several_times(self):
        grove = grown(((2, 5, 9, 11), ((), (1,), (3, 3), (6, 6, 6))))
        for mixed in itertools.permutations([2, 9, 9]):
            self.assertEqual(grove.least_group(list(mixed)), [2, 5, 9])
            self.assertIs(grove.has_group(list(mixed)), False)
            self.assertEqual(grove.greatest_in(list(mixed)), [[2], [9]])
            self.assertEqual(grove.teller(list(mixed)), (5, 2, 9))
        self.assertIs(grove.teller([5, 2]), None)

    def test_very_many_groups(self):
        grove = Grove(0)
        for place in range(1, 24):
            grove.put(place, [3] * place)
        self.assertEqual(grove.group_count(), (1 << 24) - 1)
        self.assertEqual(grove.least_group([3, 20]), [3, 20])

    def test_what_is_asked_changes_nothing(self):
        grove = grown(((1, 3, 6, 8), PATH))
        net, wood = grove.net(), grove.wood()
        for some in all_sets((1, 3, 6, 8)):
            for ask in (grove.least_group, grove.has_group, grove.greatest_in, grove.teller):
                told = ask(some)
                self.assertEqual(ask(some), told)
        self.assertEqual(grove.group_count(), 5)
        self.assertEqual((grove.net(), grove.wood()), (net, wood))
        self.assertEqual(grove.back(), ([[1, 6], [1, 3, 6]], [[1, 3, 6, 8]]))


class Back(GroveCase):
    def test_none_to_undo(self):
        grove = Grove(7)
        for turn in range(3):
            self.refuse(NoDeed, grove.back)
            self.stands(grove, ((7,), ((),)))
        grove.put(9, [1])
        self.assertEqual(grove.back(), ([], [[7, 9]]))
        self.refuse(NoDeed, grove.back)
        self.stands(grove, ((7,), ((),)))

    def test_each_kind_of_deed(self):
        grove = Grove(7)
        grove.put(9, [1])
        grove.put(8, [1, 0])
        grove.tie(8, 9, 5)
        grove.take(7)
        self.assertEqual(grove.back(), ([[7, 8, 9]], []))
        self.assertEqual(grove.net(), ((7, 8, 9), ((), (1,), (1, 5))))
        self.assertEqual(grove.back(), LONE)
        self.assertEqual(grove.net(), ((7, 8, 9), ((), (1,), (1, 0))))
        self.assertEqual(grove.back(), ([[7, 9]], [[8, 9], [7, 8, 9]]))
        self.assertEqual(grove.back(), ([], [[7, 9]]))

    def test_a_deed_that_changed_nothing_is_undone_by_itself(self):
        grove = Grove(7)
        grove.put(9, [1])
        grove.tie(7, 9, 1)
        grove.tie(9, 7, 1)
        self.assertEqual(grove.back(), LONE)
        self.assertEqual(grove.back(), LONE)
        self.assertEqual(grove.net(), ((7, 9), ((), (1,))))
        self.assertEqual(grove.back(), ([], [[7, 9]]))

    def test_what_is_undone_is_gone_and_a_going_back_is_no_deed(self):
        grove = Grove(7)
        grove.put(9, [1])
        grove.put(11, [2, 2])
        grove.back()
        grove.put(13, [3, 3])
        grove.back()
        self.assertEqual(grove.net(), ((7, 9), ((), (1,))))
        grove.back()
        self.assertEqual(grove.net(), ((7,), ((),)))
        self.refuse(NoDeed, grove.back)

    def test_across_refused_deeds(self):
        grove = Grove(7)
        self.refuse(Taken, grove.put, 7, [0])
        self.refuse(NoDeed, grove.back)
        grove.put(9, [1])
        self.refuse(NoColours, grove.put, 8, [])
        self.refuse(SamePlace, grove.tie, 9, 9, 3)
        grove.tie(7, 9, 2)
        self.refuse(NoPlace, grove.take, 8)
        self.refuse(NoPlace, grove.tie, 7, 8, 3)
        self.refuse(NoSet, grove.teller, [])
        self.assertEqual(grove.back(), LONE)
        self.assertEqual(grove.net(), ((7, 9), ((), (1,))))
        self.refuse(Taken, grove.put, 9, [1, 1])
        self.assertEqual(grove.back(), ([], [[7, 9]]))
        self.refuse(NoDeed, grove.back)
        self.refuse(NoDeed, grove.back)
        self.assertEqual(grove.put(9, [4]), ([[7, 9]], []))

    def refused_deed(self, chance, grove, net):
        place = chance.choice(net[0])
        self.refuse(NoPlace, grove.take, 1000)
        self.refuse(SamePlace, grove.tie, place, place, 1)
        self.refuse(NoNet if len(net[0]) == 24 else Taken, grove.put, place, [0] * len(net[0]))
        if len(net[0]) == 1:
            self.refuse(NoNet, grove.take, place)

    def test_a_long_drawn_row_of_deeds_and_goings_back(self):
        for seed, size in ((5, 6), (6, 60)):
            chance = random.Random(seed)
            grove = Grove(0)
            known = [(grove.net(), grove.wood())]
            for turn in range(200):
                net, wood = known[-1]
                if chance.randrange(3) == 0:
                    self.refused_deed(chance, grove, net)
                if chance.randrange(5) < 2:
                    if len(known) == 1:
                        self.refuse(NoDeed, grove.back)
                        continue
                    known.pop()
                    self.answers(grove.back(), wood, known[-1][1])
                else:
                    deed, net = drawn_deed(chance, net, range(size), (0, 0, 1))
                    self.answers(done(grove, deed), wood, grove.wood())
                    known.append((net, grove.wood()))
                self.assertEqual((grove.net(), grove.wood()), known[-1])
            while len(known) > 1:
                undone = known.pop()
                self.answers(grove.back(), undone[1], known[-1][1])
                self.assertEqual((grove.net(), grove.wood()), known[-1])
            self.refuse(NoDeed, grove.back)


class OwnLists(GroveCase):
    def spoil(self, told):
        for some in told:
            if isinstance(some, list):
                some.append(99)
                some.reverse()
        if isinstance(told, list):
            told.clear()

    def test_what_is_done_to_a_told_list_changes_no_answer(self):
        def asked(grove):
            return [grove.least_group([1, 6]), grove.greatest_in([1, 3, 8]), grove.teller([1, 6]),
                    grove.wood(), grove.net(), grove.group_count(), grove.has_group([1, 3, 6, 8])]

        grove, other = (grown(((1, 3, 6, 8), PATH)) for turn in range(2))
        expected = copy.deepcopy(asked(other))
        for told in asked(grove):
            if isinstance(told, list):
                self.spoil(told)
        self.assertEqual(asked(grove), expected)
        for deed in (("tie", 3, 6, 0), ("put", 2, [0, 1, 0, 1]), ("take", 6), ("back",), ("back",), ("back",)):
            told, expected = done(grove, deed), done(other, deed)
            self.assertEqual(told, expected)
            for sets in told:
                self.spoil(sets)
            self.assertEqual(asked(grove) if deed[0] == "back" else grove.wood(),
                             asked(other) if deed[0] == "back" else other.wood())

    def test_told_lists_stay_as_they_are(self):
        grove = grown(((1, 3, 6, 8), PATH))
        told = [grove.tie(3, 6, 0), grove.least_group([1, 8]), grove.greatest_in([1, 3, 8]), grove.net(), grove.wood()]
        kept = copy.deepcopy(told)
        grove.put(2, [0, 1, 0, 1])
        grove.take(8)
        grove.back()
        grove.back()
        grove.back()
        self.assertEqual(told, kept)

    def test_each_told_list_is_a_new_one(self):
        grove = grown(((1, 3, 6, 8), PATH))
        self.assertIsNot(grove.least_group([1, 6]), grove.least_group([1, 6]))
        one, other = grove.greatest_in([1, 3]), grove.greatest_in([1, 3])
        self.assertEqual(len({id(thing) for thing in [one, other] + one + other}), 2 + len(one) + len(other))

    def test_what_is_done_later_to_a_list_that_was_handed_in(self):
        grove = Grove(3)
        colours, some = [4], [3, 5]
        grove.put(5, colours)
        self.assertEqual(colours, [4])
        colours[0] = 9
        colours.append(7)
        self.assertEqual(grove.net(), ((3, 5), ((), (4,))))
        told = (grove.least_group(some), grove.greatest_in(some))
        self.assertEqual(some, [3, 5])
        some.clear()
        self.assertEqual(told, ([3, 5], [[3, 5]]))
        more = [1, 1]
        grove.put(8, more)
        more.clear()
        grove.tie(3, 5, 6)
        self.assertEqual(grove.net(), ((3, 5, 8), ((), (6,), (1, 1))))
        grove.back()
        grove.back()
        self.assertEqual(grove.net(), ((3, 5), ((), (4,))))

    def test_a_set_handed_in_and_told_are_not_one_list(self):
        grove = grown(((1, 3), ((), (1,))))
        some = [1, 3]
        self.assertIsNot(grove.least_group(some), some)
        self.assertIsNot(grove.greatest_in(some)[0], some)

    def test_two_groves_know_nothing_of_one_another(self):
        one, other = Grove(3), Grove(3)
        one.put(5, [1])
        self.stands(other, ((3,), ((),)))
        self.refuse(NoDeed, other.back)
        other.put(6, [2])
        other.tie(3, 6, 4)
        self.stands(one, ((3, 5), ((), (1,))))
        one.back()
        self.refuse(NoDeed, one.back)
        self.stands(other, ((3, 6), ((), (4,))))
        self.assertEqual(other.back(), LONE)
        self.stands(other, ((3, 6), ((), (2,))))


if __name__ == "__main__":
    unittest.main()
