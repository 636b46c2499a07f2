import itertools
import random
import unittest

from helper import (FLAT, GREAT, PATH, PRIME, THREE, all_nets, has_plain_groups_alone, ladder, leaves, partings,
                    path_rows, random_net, random_wood)
from modulewood.woods import is_wood, net_of

NO_NUMBERS = (-1, -GREAT, True, False, None, "", "0", "1", "flat", (), (0,), (0, 1), FLAT)
# The same in the place of a leaf, where whole woods may stand.
NO_WOODS = NO_NUMBERS[:-1]
NO_TUPLES = (0, 1, -1, True, False, None, "", "flat", "012")


def woods_by_the_words(thing):
    """The places of the thing, where it is a wood of whatever many places by the words of point 14, else None."""
    if type(thing) is not tuple:
        return [thing] if type(thing) is int and thing >= 0 else None
    if len(thing) != 3 or thing[0] not in ("flat", "prime") or type(thing[2]) is not tuple:
        return None
    word, told, branches = thing
    held = [woods_by_the_words(branch) for branch in branches]
    if None in held or len(branches) < {"flat": 2, "prime": 3}[word]:
        return None
    if [min(places) for places in held] != sorted(min(places) for places in held):
        return None
    if any(set(one) & set(other) for one, other in itertools.combinations(held, 2)):
        return None
    if word == "flat":
        alike = [branch for branch in branches if type(branch) is tuple and branch[:2] == ("flat", told)]
        return None if type(told) is not int or told < 0 or alike else sum(held, [])
    if type(told) is not tuple or [type(row) for row in told] != [tuple] * len(branches):
        return None
    if [len(row) for row in told] != list(range(len(branches))):
        return None
    if any(type(colour) is not int or colour < 0 for row in told for colour in row):
        return None
    return sum(held, []) if has_plain_groups_alone((tuple(range(len(told))), told)) else None


def is_wood_by_the_words(thing):
    places = woods_by_the_words(thing)
    return places is not None and len(places) <= 24


def framed(thing):
    """Woods that would be such if the thing were a wood with the place 50 as its least one."""
    yield thing
    yield ("flat", 11, (1, thing))
    yield ("flat", 11, (thing, 90))
    yield ("prime", PATH, (1, 3, 6, thing))
    yield ("prime", ((), (1,), (0, 1), (0, 0, 1)), (thing, 91, 93, 96))
    yield ("flat", 11, (1, ("prime", THREE, (2, 3, ("flat", 12, (4, thing))))))
    deep = thing
    for k in range(20):
        deep = ("flat", 20 + k % 2, (49 - k, deep))
    yield deep


def count_of_things(thing):
    return 1 + sum(count_of_things(part) for part in thing) if type(thing) is tuple else 1


class Case(unittest.TestCase):
    def yes(self, thing):
        self.assertIs(is_wood(thing), True, thing)

    def no(self, thing):
        self.assertIs(is_wood(thing), False, thing)

    def no_framed(self, thing):
        for whole in framed(thing):
            self.no(whole)


class Woods(Case):
    def test_leaves(self):
        for place in (0, 1, 24, GREAT, 10 ** 299):
            self.yes(place)

    def test_flat_ones(self):
        for thing in (FLAT, ("flat", 0, (0, 1)), ("flat", GREAT, (GREAT, GREAT + 1)),
                      ("flat", 0, tuple(range(24)))):
            self.yes(thing)

    def test_prime_ones(self):
        for thing in (PRIME, ("prime", THREE, (0, 1, 2)), ("prime", THREE, (GREAT, GREAT + 2, GREAT + 3)),
                      ("prime", ((), (GREAT,), (0, GREAT + 1)), (4, 5, 6)),
                      ("prime", path_rows(24), tuple(range(24))), ("prime", path_rows(5), (0, 2, 4, 6, 8))):
            self.yes(thing)

    def test_frames_hold_woods(self):
        for thing in (50, ("flat", 3, (50, 60)), ("prime", PATH, (50, 60, 70, 80))):
            for whole in framed(thing):
                self.yes(whole)

    def test_woods_within_woods(self):
        self.yes(("flat", 1, (("flat", 0, (0, 9)), 3, ("flat", 2, (4, 5)))))
        self.yes(("flat", 1, (("prime", THREE, (0, ("flat", 1, (2, 8)), 4)), 1)))
        self.yes(("prime", THREE, (("prime", THREE, (0, 3, 6)), ("prime", THREE, (1, 4, 7)),
                                   ("prime", THREE, (2, 5, 8)))))

    def test_a_flat_wood_of_the_same_colour_further_down(self):
        self.yes(("flat", 1, (("flat", 0, (("flat", 1, (0, 1)), 2)), 3)))

    def test_as_deep_as_a_wood_may_be(self):
        self.yes(ladder(0, 23))

    def test_many(self):
        chance = random.Random(16)
        for size in (1, 2, 3, 6, 12, 24):
            for turn in range(12):
                self.yes(random_wood(chance, [5 * k + GREAT * (k % 2) for k in range(size)], [0, 1, GREAT]))


class NoWoods(Case):
    def test_things_that_are_no_tuples(self):
        for thing in (-1, -GREAT, True, False, None, "", "0", "flat"):
            self.no_framed(thing)

    def test_tuples_of_another_length(self):
        for thing in ((), (0,), (50,), ("flat",), ("flat", 3), ("flat", 3, (50, 60), ()), ("prime", PATH),
                      ("flat", 3, 50, 60), ("prime", PATH, (50, 60, 70, 80), 0), ((),), ((50,),), (50, 60)):
            self.no_framed(thing)

    def test_another_first_word(self):
        for word in ("", "Flat", "flat ", "primes", "leaf", 0, True, None, (), ("flat",), FLAT):
            self.no_framed((word, 3, (50, 60)))
            self.no_framed((word, PATH, (50, 60, 70, 80)))
        self.no_framed(("prime", 3, (50, 60)))
        self.no_framed(("flat", PATH, (50, 60, 70, 80)))

    def test_colours_that_are_none(self):
        for colour in NO_NUMBERS:
            self.no_framed(("flat", colour, (50, 60)))
            for i, j in ((1, 0), (2, 1), (3, 0)):
                rows = [list(row) for row in PATH]
                rows[i][j] = colour
                self.no_framed(("prime", tuple(map(tuple, rows)), (50, 60, 70, 80)))
                # Prime if only the colour were one: so nothing else refuses it.
                rows = [[10 * k + m for m in range(k)] for k in range(4)]
                rows[i][j] = colour
                self.no_framed(("prime", tuple(map(tuple, rows)), (50, 60, 70, 80)))

    def test_truths_in_the_place_of_like_numbers(self):
        self.yes(("prime", ((), (1,), (0, 2)), (50, 60, 70)))
        self.no_framed(("prime", ((), (True,), (0, 2)), (50, 60, 70)))
        self.no_framed(("prime", ((), (1,), (False, 2)), (50, 60, 70)))
        self.no_framed(("flat", True, (50, 60)))
        self.no_framed(("flat", False, (50, 60)))
        self.no(("flat", 3, (False, 1)))
        self.no(("flat", 3, (0, True)))
        self.no(("prime", PATH, (0, True, 2, 3)))

    def test_branches_that_are_no_tuples(self):
        for branches in NO_TUPLES + ("50", 50):
            self.no_framed(("flat", 3, branches))
            self.no_framed(("prime", PATH, branches))
            self.no_framed(("prime", (), branches))

    def test_rows_that_are_no_tuples(self):
        for rows in NO_TUPLES:
            self.no_framed(("prime", rows, (50, 60, 70)))
            for i in range(3):
                told = list(THREE)
                told[i] = rows
                self.no_framed(("prime", tuple(told), (50, 60, 70)))

    def test_rows_of_another_length(self):
        for rows in ((), ((),), ((), (1,)), ((), (1,), (2, 3), (4, 5, 6)), ((), (1,), (2,)), ((), (), (2, 3)),
                     ((), (1,), (2, 3, 4)), ((), (1, 2), (2, 3)), ((0,), (1,), (2, 3)), ((1,), (2, 3)),
                     ((0,), (1, 0), (2, 3, 0)), ((0, 1, 2), (1, 0, 3), (2, 3, 0)), THREE[::-1]):
            self.no_framed(("prime", rows, (50, 60, 70)))

    def test_too_few_branches(self):
        for branches in ((), (50,)):
            self.no_framed(("flat", 3, branches))
        for rows, branches in (((), ()), (((),), (50,)), (((), (1,)), (50, 60))):
            self.no_framed(("prime", rows, branches))

    def test_branches_in_another_order(self):
        for branches in itertools.permutations((50, 60, 70, 80)):
            if branches != (50, 60, 70, 80):
                self.no_framed(("flat", 3, branches))
                self.no_framed(("prime", PATH, branches))
        self.no(("flat", 1, (3, ("flat", 0, (0, 9)))))
        self.no(("flat", 1, (("flat", 0, (4, 5)), ("flat", 0, (3, 9)))))

    def test_by_their_least_places_not_by_others(self):
        self.yes(("flat", 1, (("flat", 0, (0, 9)), ("flat", 0, (3, 4)))))
        self.no(("flat", 1, (("flat", 0, (3, 4)), ("flat", 0, (0, 9)))))

    def test_a_place_twice(self):
        self.no_framed(("flat", 3, (50, 50)))
        self.no_framed(("flat", 3, (50, 60, 60)))
        self.no_framed(("prime", PATH, (50, 60, 60, 70)))
        self.no_framed(("flat", 3, (("flat", 4, (50, 70)), ("flat", 4, (60, 70)))))
        self.no_framed(("flat", 3, (("prime", PATH, (50, 70, 71, 72)), 60, 70)))
        self.no(("flat", 11, (("flat", 12, (50, ("flat", 13, (51, ("flat", 14, (52, 99)))))), 60, 99)))

    def test_a_flat_branch_of_the_same_colour(self):
        for colour in (0, 3, GREAT):
            self.no_framed(("flat", colour, (50, ("flat", colour, (60, 70)))))
            self.no_framed(("flat", colour, (("flat", colour, (50, 70)), 60, 80)))
        self.no(("flat", 0, (0, 1, ("flat", 1, (2, 3)), ("flat", 0, (4, 5)))))

    def test_a_prime_one_whose_net_has_another_group(self):
        for rows in (((), (0,), (0, 0)), ((), (1,), (1, 2)), ((), (1,), (2, 1)), ((), (1,), (2, 2))):
            self.no_framed(("prime", rows, (50, 60, 70)))
        for rows in (((), (1,), (0, 0), (0, 0, 1)), ((), (1,), (0, 1), (0, 1, 0)), ((), (1,), (0, 1), (1, 0, 1))):
            self.no_framed(("prime", rows, (50, 60, 70, 80)))

    def test_all_but_one_go_together_but_no_two(self):
        for length in (5, 6, 23):
            for colour in (0, 1, 5, GREAT):
                inner = path_rows(length - 1)
                last = inner + ((colour,) * (length - 1),)
                first = ((),) + tuple((colour,) + row for row in inner)
                branches = tuple(range(50, 50 + length))
                self.no(("prime", last, branches))
                self.no(("prime", first, branches))
        self.no_framed(("prime", ((), (1,), (0, 1), (0, 0, 1), (5, 5, 5, 5)), (50, 60, 70, 80, 85)))
        self.no_framed(("prime", ((), (5,), (5, 1), (5, 0, 1), (5, 0, 0, 1)), (50, 60, 70, 80, 85)))

    def test_twenty_five_places(self):
        places = tuple(range(25))
        self.no(("flat", 0, places))
        self.no(("prime", path_rows(25), places))
        self.no(("flat", 0, (("flat", 1, places[:12]), ("flat", 1, places[12:]))))
        self.yes(("flat", 0, (("flat", 1, places[:12]), ("flat", 1, places[12:24]))))
        self.no(ladder(0, 24))
        self.no(("flat", 0, tuple(range(395))))

    def test_something_else_deep_within_a_wood(self):
        self.yes(ladder(0, 23))
        for leaf in NO_WOODS:
            self.no(ladder(leaf, 23))

    def test_eighty_tuples_within_one_another(self):
        for leaf in NO_WOODS + (0, FLAT[:2]):
            self.no_wrapped(lambda thing: (thing,), leaf, 79)
            self.no_wrapped(lambda thing: (thing, 1), leaf, 79)
            self.no_wrapped(lambda thing: ("flat", 0, thing), leaf, 79)
            self.no_wrapped(lambda thing: ("flat", thing, (0, 1)), leaf, 79)
            self.no_wrapped(lambda thing: (thing, 0, (0, 1)), leaf, 79)
            self.no_wrapped(lambda thing: ("prime", thing, (0, 1)), leaf, 79)
            self.no_wrapped(lambda thing: ("flat", 0, (thing,)), leaf, 39)
            self.no_wrapped(lambda thing: ("flat", 0, (thing, 1)), leaf, 39)
            self.no_wrapped(lambda thing: ("flat", 0, ((), thing)), leaf, 39)
            self.no_wrapped(lambda thing: ("prime", THREE, (thing, 1, 2)), leaf, 26)
            self.no_wrapped(lambda thing: ("prime", ((), (thing,), (1, 2)), (0, 1, 2)), leaf, 26)
            self.no_wrapped(lambda thing: ("flat", 0, (thing, thing)), leaf, 5)
            self.no(ladder(leaf, 39))

    def no_wrapped(self, wrap, leaf, times):
        thing = leaf
        for turn in range(times):
            thing = wrap(thing)
        self.assertLessEqual(count_of_things(thing), 400)
        self.no(thing)

    def test_somewhat_deeper_still(self):
        self.no_wrapped(lambda thing: ("flat", 0, (thing,)), 0, 99)
        self.no(ladder(0, 100))


class AgainstTheWords(Case):
    def candidates(self, places, colours):
        """Every thing over the places whose branches are woods, in order: flat or prime, with whatever rows."""
        if len(places) == 1:
            yield places[0]
            return
        for parts in partings(places):
            if len(parts) < 2:
                continue
            for branches in itertools.product(*[self.woods(part, colours) for part in parts]):
                for colour in colours:
                    yield ("flat", colour, branches)
                for net in all_nets(range(len(parts)), colours):
                    yield ("prime", net[1], branches)

    def woods(self, places, colours):
        return [thing for thing in self.candidates(places, colours) if is_wood(thing)]

    def test_each_net_has_just_one_wood(self):
        for places, colours in (((2, 5), (0, 1, 2)), ((0, 1, 2), (0, 1, GREAT)), ((1, 2, 3, 5), (0, 1, 2)),
                                ((0, 2, 4, 5, GREAT), (0, 1))):
            nets = [net_of(wood) for wood in self.woods(places, colours)]
            self.assertEqual(sorted(nets), sorted(all_nets(places, colours)))

    def test_every_small_prime_one(self):
        for size, colours in ((3, (0, 1, 2)), (4, (0, 1, 2)), (5, (0, 1))):
            for net in all_nets(range(size), colours):
                self.assertIs(is_wood(("prime", net[1], net[0])), has_plain_groups_alone(net))

    def test_greater_prime_ones(self):
        chance = random.Random(14)
        for size in (6, 7, 9):
            for turn in range(120):
                net = random_net(chance, range(size), (0, 1))
                self.assertIs(is_wood(("prime", net[1], net[0])), has_plain_groups_alone(net))

    def test_woods_changed_anywhere(self):
        chance = random.Random(13)
        answers = []
        for turn in range(4000):
            thing = random_wood(chance, range(chance.choice([1, 2, 3, 5, 8])), [0, 1, 2])
            for change in range(chance.choice([1, 1, 2])):
                thing = changed(chance, thing)
            self.assertLessEqual(count_of_things(thing), 400)
            answers.append(is_wood(thing))
            self.assertIs(answers[-1], is_wood_by_the_words(thing), thing)
        self.assertGreater(answers.count(True), 100)
        self.assertGreater(answers.count(False), 1000)

    def test_no_frame_is_a_wood_by_accident(self):
        for thing in (50, ("flat", 3, (50, 60)), ("flat", 3, (50,)), -1, ("prime", PATH, (50, 60, 60, 70))):
            for whole in framed(thing):
                self.assertIs(is_wood(whole), is_wood_by_the_words(whole))
                if is_wood(whole):
                    self.assertEqual(len(set(leaves(whole))), len(leaves(whole)))


def changed(chance, thing):
    """The thing with one part of it, anywhere, put out, put in, doubled, or two parts of it changed over."""
    if type(thing) is tuple and thing and chance.randrange(5):
        k = chance.randrange(len(thing))
        return thing[:k] + (changed(chance, thing[k]),) + thing[k + 1:]
    pool = (-1, 0, 1, 2, 3, 9, True, False, None, "", "flat", "prime", (), (0,), (8, 9), ("flat", 1, (8, 9)),
            ("flat", 2, (3, 9)), ((), (1,), (0, 2)), ("prime", THREE, (7, 8, 9)))
    if type(thing) is not tuple or not thing or chance.randrange(2):
        return chance.choice(pool)
    k, m = chance.randrange(len(thing)), chance.randrange(len(thing))
    way = chance.randrange(4)
    if way == 0:
        return thing[:k] + thing[k + 1:]
    if way == 1:
        return thing[:k] + (chance.choice(pool),) + thing[k:]
    if way == 2:
        return thing[:k] + (thing[m],) + thing[k:]
    told = list(thing)
    told[k], told[m] = told[m], told[k]
    return tuple(told)


if __name__ == "__main__":
    unittest.main()
