"""The promise as a whole, net by net, and what holds of everything that the program tells and takes."""

import copy
import itertools
import random
import unittest

from helper import (all_groups, all_nets, all_sets, clumped_net, closed, looks_alike, net_by, put_in, random_net,
                    taken_out, tied, tint)
from modulewood.asked import greatest_in, group_count, groups, has_group, least_group
from modulewood.desk import Desk
from modulewood.errors import NetError
from modulewood.groups import greatest_within, is_group, pulled, teller
from modulewood.grove import Grove
from modulewood.laying import common_wood, laid, least_common
from modulewood.making import wood_of
from modulewood.nets import colour, net_from, part_of, recoloured, with_place, without_place
from modulewood.quotients import filled, quotient
from modulewood.texts import read_wood, show_wood
from modulewood.woods import colour_in, is_wood, knots, net_of, places_of
from modulewood.working import grafted, pruned, with_leaf, wood_recoloured


def nets():
    yield from all_nets([6], [0])
    yield from all_nets([3, 8], [0, 1])
    yield from all_nets([0, 4, 9], [0, 1, 2])
    yield from all_nets([2, 3, 5, 8], [0, 1])
    chance = random.Random(3)
    for size in (5, 6, 7):
        for turn in range(12):
            yield clumped_net(chance, chance.sample(range(20), size), (0, 1, 2)[:chance.randrange(2, 4)])


def great_nets():
    chance = random.Random(4)
    for colours in ((0, 1), (0, 0, 0, 1), (2, 5, 10 ** 99)):
        for turn in range(4):
            places = chance.sample(range(100), 24)
            yield clumped_net(chance, places, colours)
        yield random_net(chance, places, colours)


class Promise(unittest.TestCase):
    def test_each_group_and_no_other(self):
        for net in nets():
            wood = wood_of(net)
            self.assertTrue(is_wood(wood))
            self.assertEqual(net_of(wood), net)
            found = all_groups(net)
            self.assertEqual(groups(wood, 4000), (found, True))
            self.assertEqual(group_count(wood), len(found))

    def test_asked_of_the_wood_and_of_the_net(self):
        for net in nets():
            wood = wood_of(net)
            for some in all_sets(net[0]):
                self.assertEqual(has_group(wood, some), looks_alike(net, some))
                self.assertEqual(is_group(net, some), looks_alike(net, some))
                self.assertEqual(least_group(wood, some), closed(net, some))
                self.assertEqual(pulled(net, some)[0], closed(net, some))
                self.assertEqual(greatest_in(wood, some), greatest_within(net, some))

    def test_great_nets(self):
        chance = random.Random(5)
        for net in great_nets():
            wood = wood_of(net)
            self.assertTrue(is_wood(wood))
            self.assertEqual(net_of(wood), net)
            for length in (1, 2, 2, 3, 5, 12, 23):
                some = chance.sample(net[0], length)
                self.assertEqual(has_group(wood, some), looks_alike(net, some))
                self.assertEqual(least_group(wood, some), closed(net, some))
                self.assertEqual(greatest_in(wood, some), greatest_within(net, some))
                self.check_teller(net, sorted(some))
                self.check_pulls(net, some)

    def check_teller(self, net, some):
        told = teller(net, some)
        if told is None:
            self.assertTrue(looks_alike(net, some))
        else:
            self.assertNotIn(told[0], some)
            self.assertTrue(told[1] in some and told[2] in some)
            self.assertNotEqual(tint(net, told[0], told[1]), tint(net, told[0], told[2]))

    def check_pulls(self, net, some):
        group, pulls = pulled(net, some)
        known = sorted(set(some))
        for place, one, other in pulls:
            self.assertNotIn(place, known)
            self.assertTrue(one in known and other in known)
            self.assertNotEqual(tint(net, place, one), tint(net, place, other))
            known.append(place)
        self.assertEqual(sorted(known), group)

    def test_tellers_and_pulls(self):
        for net in nets():
            for some in all_sets(net[0]):
                self.check_teller(net, some)
                self.check_pulls(net, some)

    def test_woods_changed(self):
        for net in itertools.islice(nets(), 0, None, 3):
            wood, inner = wood_of(net), ((30, 40), ((), (1,)))
            for place in net[0]:
                self.assertEqual(grafted(wood, place, wood_of(inner)), wood_of(filled(net, place, inner)))
            for some in all_sets(net[0]):
                self.assertEqual(pruned(wood, some), wood_of(part_of(net, some)))
            colours = [k % 2 for k in range(len(net[0]))]
            self.assertEqual(with_leaf(wood, 30, colours), wood_of(put_in(net, 30, colours)))
            for ends in itertools.permutations(net[0], 2):
                self.assertEqual(wood_recoloured(wood, *ends, 1), wood_of(tied(net, ends, 1)))

    def test_laid_on_one_another(self):
        chance = random.Random(6)
        for net in itertools.islice(nets(), 0, None, 3):
            other = clumped_net(chance, net[0], (0, 1))
            both = [some for some in all_groups(net) if looks_alike(other, some)]
            self.assertEqual(all_groups(laid(net, other)), both)
            wood = common_wood(wood_of(net), wood_of(other))
            self.assertEqual(groups(wood, 4000), (both, True))
            for some in all_sets(net[0]):
                self.assertEqual(least_common(wood_of(net), wood_of(other), some), least_group(wood, some))

    def test_written_read_and_kept(self):
        for net in itertools.chain(nets(), itertools.islice(great_nets(), 5)):
            wood = wood_of(net)
            text = show_wood(wood)
            self.assertEqual(read_wood(text), wood)
            grove, desk = Grove(net[0][0]), Desk()
            desk.say(f"new oak {net[0][0]}")
            for place, row in list(zip(net[0], net[1]))[1:]:
                grove.put(place, list(row))
                desk.say(" ".join(["put oak", str(place)] + [str(number) for number in row]))
            self.assertEqual((grove.net(), grove.wood(), grove.group_count()), (net, wood, group_count(wood)))
            self.assertEqual(desk.say("wood oak"), text)
            self.assertEqual(desk.say("count oak"), str(group_count(wood)))

    def test_a_wood_stays_the_same_while_places_come_and_go(self):
        for net in itertools.islice(nets(), 20, None, 5):
            grove = Grove(77)
            for place in net[0]:
                grove.put(place, [0 if other == 77 else tint(net, place, other) for other in grove.net()[0]])
            grove.take(77)
            self.assertEqual(grove.wood(), wood_of(net))
            self.assertEqual(taken_out(put_in(net, 77, [0] * len(net[0])), 77), net)


NET = ((1, 3, 6, 8, 9), ((), (1,), (0, 1), (0, 0, 1), (5, 5, 5, 5)))
WOOD = ("flat", 5, (("prime", ((), (1,), (0, 1), (0, 0, 1)), (1, 3, 6, 8)), 9))
TELLING = (
    (is_group, NET, [3, 1]), (teller, NET, [3, 1]), (pulled, NET, [3, 1]), (greatest_within, NET, [9, 3, 1]),
    (part_of, NET, [8, 1]), (net_from, [2, 1], [(1, 2, 3)]), (quotient, NET, [[9], [8, 6, 3, 1]]),
    (filled, NET, 3, ((2, 4), ((), (7,)))), (places_of, WOOD), (knots, WOOD), (net_of, WOOD), (colour_in, WOOD, 1, 9),
    (has_group, WOOD, [1, 3]), (least_group, WOOD, [3, 1]), (greatest_in, WOOD, [9, 3, 1]), (groups, WOOD, 4),
    (groups, WOOD, 40), (wood_of, NET), (grafted, WOOD, 9, 10), (pruned, WOOD, [3, 1]),
    (with_leaf, WOOD, 2, [1, 2, 3, 4, 5]), (wood_recoloured, WOOD, 1, 3, 9), (laid, NET, NET),
    (least_common, WOOD, WOOD, [3, 1]), (common_wood, WOOD, WOOD), (show_wood, WOOD), (read_wood, "{5 1 3}"),
    (colour, NET, 1, 9), (recoloured, NET, 1, 9, 2), (with_place, NET, 2, [1, 2, 3, 4, 5]), (without_place, NET, 3),
    (is_wood, WOOD), (group_count, WOOD),
)


def lists_in(thing):
    """All lists within a thing, itself among them."""
    if not isinstance(thing, (list, tuple)):
        return []
    within = [found for part in thing for found in lists_in(part)]
    return [thing] + within if isinstance(thing, list) else within


class OverTheWhole(unittest.TestCase):
    def test_every_function_of_the_interface_is_among_them(self):
        names = """net_from colour recoloured with_place without_place part_of is_group teller pulled greatest_within
                   quotient filled places_of colour_in net_of knots is_wood has_group least_group greatest_in
                   group_count groups wood_of grafted pruned with_leaf wood_recoloured laid least_common common_wood
                   show_wood read_wood""".split()
        self.assertEqual({ask.__name__ for ask, *handed in TELLING}, set(names))

    def test_nothing_handed_in_is_changed_and_told_lists_are_the_askers_own(self):
        for ask, *handed in copy.deepcopy(TELLING):
            with self.subTest(ask.__name__):
                kept = copy.deepcopy(handed)
                told = ask(*handed)
                self.assertEqual(handed, kept)
                expected, again = copy.deepcopy(told), ask(*handed)
                self.assertEqual(again, expected)
                known = [id(found) for thing in (told, again, handed[0], handed[1:]) for found in lists_in(thing)]
                self.assertEqual(len(known), len(set(known)))
                for found in lists_in(told):
                    found.append(77)
                self.assertEqual(again, expected)
                for found in lists_in(handed):
                    found.clear()
                self.assertEqual(again, expected)
                self.assertEqual(ask(*kept), expected)

    def test_every_refusal_is_a_net_error_and_a_value_error(self):
        for ask, *handed in (("take", 9), ("tie", 1, 1, 0), ("put", 1, []), ("teller", [])):
            for refusal in (NetError, ValueError):
                with self.assertRaises(refusal):
                    getattr(Grove(1), ask)(*handed)
        for row in ("", "wood oak", "new Oak 1"):
            for refusal in (NetError, ValueError):
                with self.assertRaises(refusal):
                    Desk().say(row)
        for text in ("", "{1 2}"):
            with self.assertRaises(NetError):
                read_wood(text)

    def test_nets_written_down_are_nets(self):
        self.assertEqual(net_of(WOOD), NET)
        self.assertEqual(net_by(NET[0], lambda one, other: tint(NET, one, other)), NET)


if __name__ == "__main__":
    unittest.main()
