import random
import string
import unittest

from helper import RefusalCase, came_and_fell, closed, drawn_deed, path_rows
from modulewood.asked import group_count, groups
from modulewood.desk import Desk
from modulewood.errors import (NetError, NoColours, NoDeed, NoName, NoNet, NoPlace, NoRow, SamePlace, Taken, TooMany,
                               Unlike)
from modulewood.groups import greatest_within, teller
from modulewood.laying import laid
from modulewood.making import wood_of
from modulewood.rows import is_name
from modulewood.texts import show_wood

SIXTY = "9" * 60
WORDS = "new put take tie back wood count groups least within ask lay copy".split()
PLANTED = ("new oak 1", "put oak 3 1", "put oak 6 0 1", "put oak 8 0 0 1")


def desk_with(*rows):
    desk = Desk()
    for row in rows:
        desk.say(row)
    return desk


class DeskCase(RefusalCase):
    def says(self, desk, *rows):
        for row, answer in rows:
            with self.subTest(row):
                self.assertEqual(desk.say(row), answer)

    def refused(self, desk, refusal, *rows):
        for row in rows:
            with self.subTest(row):
                self.refuse(refusal, desk.say, row)


class Answers(DeskCase):
    def test_new(self):
        desk = Desk()
        self.says(desk, ("new oak 0", "ok"), ("wood oak", "0"), ("new elm " + SIXTY, "ok"), ("wood elm", SIXTY),
                  ("new a 7", "ok"), ("new abcdefgh 8", "ok"), ("wood abcdefgh", "8"), ("wood a", "7"))

    def test_new_in_the_stead_of_another(self):
        desk = desk_with(*PLANTED)
        self.says(desk, ("new oak 4", "ok"), ("wood oak", "4"), ("count oak", "1"))
        self.refused(desk, NoDeed, "back oak")
        self.says(desk, ("new oak 4", "ok"), ("put oak 5 1", "(4 5) /"))

    def test_came_and_fell(self):
        self.says(Desk(), ("new oak 0", "ok"), ("put oak 2 5", "(0 2) /"), ("tie oak 0 2 5", "/"),
                  ("tie oak 2 0 1", "/"), ("put oak 1 1 4", "(1 2) (0 1 2) / (0 2)"), ("tie oak 1 2 1", "/ (1 2)"),
                  ("tie oak 2 1 0", "(1 2) /"), ("tie oak 0 2 0", "(0 1) / (1 2)"), ("take oak 2", "/ (0 1 2)"),
                  ("take oak 0", "/ (0 1)"), ("wood oak", "1"))

    def test_several_came_and_several_fell(self):
        self.says(desk_with(*PLANTED), ("wood oak", "[1 3 6 8 : 1 0 1 0 0 1]"), ("tie oak 3 6 0", "(1 3) (6 8) /"),
                  ("tie oak 6 3 1", "/ (1 3) (6 8)"), ("take oak 8", "(1 6) (1 3 6) / (1 3 6 8)"),
                  ("put oak 10 1 0 0", "(1 3 6 10) / (1 6) (1 3 6)"))

    def test_put(self):
        self.says(Desk(), ("new oak 5", "ok"), ("put oak 3 1", "(3 5) /"), ("put oak 9 4 7", "(3 5 9) / (3 5)"),
                  ("wood oak", "[3 5 9 : 1 4 7]"), ("put oak 4 6 6 6", "(3 4 5 9) /"),
                  ("wood oak", "{6 [3 5 9 : 1 4 7] 4}"))

    def test_back(self):
        desk = desk_with("new oak 0", "put oak 2 5", "put oak 1 5 4", "tie oak 0 1 7")
        self.says(desk, ("wood oak", "[0 1 2 : 7 5 4]"), ("back oak", "(1 2) /"), ("wood oak", "{5 0 {4 1 2}}"),
                  ("back oak", "(0 2) / (1 2) (0 1 2)"), ("back oak", "/ (0 2)"), ("wood oak", "0"))
        self.refused(desk, NoDeed, "back oak", "back oak")

    def test_back_across_refusals_and_new_deeds(self):
        desk = desk_with("new oak 0", "put oak 2 5")
        self.refused(desk, NoPlace, "take oak 7", "tie oak 0 3 1", "ask oak 9")
        self.refused(desk, Taken, "put oak 2 5 5")
        self.refused(desk, NoRow, "take oak", "put oak")
        self.says(desk, ("tie oak 0 2 6", "/"), ("back oak", "/"), ("wood oak", "{5 0 2}"),
                  ("put oak 9 5 5", "(0 2 9) / (0 2)"),
                  ("back oak", "(0 2) / (0 2 9)"), ("back oak", "/ (0 2)"))
        self.refused(desk, NoDeed, "back oak")

    def test_wood(self):
        desk = desk_with("new oak 0", "put oak 4 7", "put oak 11 7 7")
        self.says(desk, ("wood oak", "{7 0 4 11}"))
        desk = desk_with("new oak 0", "put oak 4 1", "put oak 11 1 7", "put oak 6 2 3 3", "put oak 5 7 7 7 7")
        self.says(desk, ("wood oak", "{7 [0 {7 4 11} 6 : 1 2 3] 5}"))

    def test_count(self):
        desk = desk_with(*PLANTED)
        self.says(desk, ("count oak", "5"), ("take oak 8", "(1 6) (1 3 6) / (1 3 6 8)"), ("count oak", "5"),
                  ("new oak 3", "ok"), ("count oak", "1"))
        for place in range(23):
            desk.say(f"put oak {place + 10}" + " 1" * (place + 1))
        self.says(desk, ("count oak", str(2 ** 24 - 1)))

    def test_groups(self):
        desk = desk_with("new oak 2", "put oak 10 1", "put oak 9 1 1")
        every = "(2) (9) (10) (2 9) (2 10) (9 10) (2 9 10)"
        self.says(desk, ("groups oak 0", "more"), ("groups oak 1", "(2) more"),
                  ("groups oak 4", "(2) (9) (10) (2 9) more"),
                  ("groups oak 6", "(2) (9) (10) (2 9) (2 10) (9 10) more"), ("groups oak 7", every),
                  ("groups oak 8", every), ("groups oak 4000", every), ("groups oak " + SIXTY, every))
        self.says(desk_with("new oak 2"), ("groups oak 0", "more"), ("groups oak 1", "(2)"), ("groups oak 2", "(2)"))

    def test_too_many_groups(self):
        desk = desk_with("new oak 0", *(f"put oak {place}" + " 1" * place for place in range(1, 11)))
        self.says(desk, ("count oak", "2047"), ("groups oak 1", "(0) more"))
        self.says(desk, ("put oak 11" + " 1" * 11, "(0 1 2 3 4 5 6 7 8 9 10 11) / (0 1 2 3 4 5 6 7 8 9 10)"))
        self.says(desk, ("count oak", "4095"))
        self.refused(desk, TooMany, "groups oak 0", "groups oak 1", "groups oak 4000", "groups oak " + SIXTY)
        self.says(desk, ("count oak", "4095"),
                  ("take oak 11", "(0 1 2 3 4 5 6 7 8 9 10) / (0 1 2 3 4 5 6 7 8 9 10 11)"))

    def test_least(self):
        desk = desk_with("new oak 2", "put oak 5 1", "put oak 9 3 3", "put oak 11 6 6 6")
        self.says(desk, ("least oak 5", "(5)"), ("least oak 5 2", "(2 5)"), ("least oak 9 2", "(2 5 9)"),
                  ("least oak 11 5 11", "(2 5 9 11)"), ("least oak 9 9 9", "(9)"))

    def test_within(self):
        desk = desk_with("new oak 2", "put oak 5 1", "put oak 9 3 3", "put oak 11 6 6 6")
        self.says(desk, ("within oak 5", "(5)"), ("within oak 11 5 2", "(2 5) (11)"), ("within oak 9 2", "(2) (9)"),
                  ("within oak 9 5 2 5", "(2 5 9)"), ("within oak 11 9 5", "(5) (9) (11)"))

    def test_ask(self):
        desk = desk_with("new oak 2", "put oak 5 1", "put oak 9 3 3", "put oak 11 6 6 6")
        self.says(desk, ("ask oak 5", "yes"), ("ask oak 5 2", "yes"), ("ask oak 9 11", "no 2 9 11"),
                  ("ask oak 11 9 9 11", "no 2 9 11"), ("ask oak 2 9", "no 5 2 9"), ("ask oak 2 5 9 11", "yes"))

    def test_lay(self):
        desk = desk_with("new oak 2", "put oak 5 7", "put oak 9 7 1", "new elm 9", "put elm 5 8", "put elm 2 4 3")
        self.says(desk, ("wood oak", "{7 2 {1 5 9}}"), ("wood elm", "[2 5 9 : 4 3 8]"),
                  ("lay oak elm", "[2 5 9 : 2 1 0]"), ("lay elm oak", "[2 5 9 : 1 0 2]"),
                  ("lay oak oak", "{1 2 {0 5 9}}"), ("lay elm elm", "[2 5 9 : 1 0 2]"))
        self.says(desk_with("new a 3", "new b 3"), ("lay a b", "3"), ("lay a a", "3"))

    def test_lay_unlike(self):
        desk = desk_with("new a 3", "new b 4", "new c 3", "put c 4 0", "new d 3", "put d 5 0")
        for one, other in (("a", "b"), ("a", "c"), ("b", "c"), ("c", "d")):
            self.refused(desk, Unlike, f"lay {one} {other}", f"lay {other} {one}")
        self.says(desk, ("wood a", "3"), ("wood b", "4"), ("wood c", "{0 3 4}"), ("wood d", "{0 3 5}"))

    def test_copy(self):
        desk = desk_with(*PLANTED)
        self.says(desk, ("copy oak elm", "ok"), ("wood elm", "[1 3 6 8 : 1 0 1 0 0 1]"), ("count elm", "5"))
        self.refused(desk, NoDeed, "back elm")
        self.says(desk, ("tie elm 3 6 0", "(1 3) (6 8) /"), ("wood oak", "[1 3 6 8 : 1 0 1 0 0 1]"),
                  ("back oak", "(1 6) (1 3 6) / (1 3 6 8)"), ("wood elm", "{0 {1 1 3} {1 6 8}}"),
                  ("back elm", "/ (1 3) (6 8)"))
        self.refused(desk, NoDeed, "back elm")
        self.says(desk, ("wood elm", "[1 3 6 8 : 1 0 1 0 0 1]"), ("wood oak", "{1 {0 1 6} 3}"))

    def test_copy_onto_a_name_that_has_a_grove(self):
        desk = desk_with("new elm 4", "put elm 5 6", *PLANTED)
        self.says(desk, ("copy oak elm", "ok"), ("wood elm", "[1 3 6 8 : 1 0 1 0 0 1]"))
        self.refused(desk, NoDeed, "back elm")
        self.says(desk, ("back oak", "(1 6) (1 3 6) / (1 3 6 8)"), ("wood elm", "[1 3 6 8 : 1 0 1 0 0 1]"))

    def test_copy_onto_itself(self):
        desk = desk_with(*PLANTED)
        self.says(desk, ("copy oak oak", "ok"), ("wood oak", "[1 3 6 8 : 1 0 1 0 0 1]"))
        self.refused(desk, NoDeed, "back oak")
        self.says(desk, ("take oak 8", "(1 6) (1 3 6) / (1 3 6 8)"), ("back oak", "(1 3 6 8) / (1 6) (1 3 6)"))
        self.refused(desk, NoDeed, "back oak")

    def test_a_copy_stays_when_the_first_one_is_planted_anew(self):
        desk = desk_with(*PLANTED, "copy oak elm", "new oak 77")
        self.says(desk, ("wood elm", "[1 3 6 8 : 1 0 1 0 0 1]"), ("wood oak", "77"))

    def test_names_that_are_first_words(self):
        desk = Desk()
        for word in WORDS:
            self.says(desk, (f"new {word} 4", "ok"), (f"put {word} 6 1", "(4 6) /"), (f"wood {word}", "{1 4 6}"),
                      (f"least {word} 4", "(4)"))
        self.says(desk, ("lay lay copy", "{0 4 6}"), ("copy copy lay", "ok"), ("count count", "3"),
                  ("back back", "/ (4 6)"),
                  ("wood back", "4"), ("wood wood", "{1 4 6}"), ("take take 4", "/ (4 6)"), ("wood take", "6"))

    def test_sixty_figures(self):
        one, other = "1" + "0" * 59, SIXTY
        self.says(Desk(), (f"new oak {other}", "ok"), (f"put oak {one} {other}", f"({one} {other}) /"),
                  (f"tie oak {one} {other} {one}", "/"), ("wood oak", "{" + f"{one} {one} {other}" + "}"),
                  (f"ask oak {one}", "yes"), (f"take oak {one}", f"/ ({one} {other})"))


class NoRows(DeskCase):
    def setUp(self):
        self.desk = desk_with("new oak 3", "put oak 5 1", "new elm 3", "put elm 5 2")

    def tearDown(self):
        self.says(self.desk, ("wood oak", "{1 3 5}"), ("wood elm", "{2 3 5}"), ("back oak", "/ (3 5)"),
                  ("back elm", "/ (3 5)"))
        self.refused(self.desk, NoDeed, "back oak", "back elm")
        for name in ("nut", "ash", "x"):
            self.refused(self.desk, NoName, f"wood {name}")

    GOOD = ("new ash 4", "put oak 7 1 1", "put oak 7", "take oak 3", "tie oak 3 5 0", "back oak", "wood oak",
            "count oak",
            "groups oak 3", "least oak 3", "least oak 3 5", "within oak 3", "within oak 3 5", "ask oak 3",
            "ask oak 3 5",
            "lay oak elm", "copy oak ash")

    def test_other_first_words(self):
        for row in ("", "oak", "New ash 4", "NEW ash 4", "news ash 4", "ne ash 4", "grow oak", "Wood oak", "wood: oak",
                    "4", "4 oak", "show oak", "group oak 3", "asks oak 3", "copies oak ash", "/", "ok",
                    "tie, oak 3 5 0",
                    "net oak", "teller oak 3", "has oak 3"):
            self.refused(self.desk, NoRow, row)
        for row in self.GOOD:
            words = row.split(" ")
            self.refused(self.desk, NoRow, " ".join(words[1:]), row.upper(), row.title(), "say " + row)

    def test_blanks(self):
        self.refused(self.desk, NoRow, "", " ", "  ", "   ")
        for row in self.GOOD:
            self.refused(self.desk, NoRow, " " + row, row + " ", "  " + row, row + "  ")
            for at in range(len(row)):
                if row[at] == " ":
                    self.refused(self.desk, NoRow, row[:at] + " " + row[at:])

    def test_an_empty_word_for_a_name(self):
        for word in WORDS:
            self.refused(self.desk, NoRow, word, word + " ", word + "  ", word + "  3", word + "  oak", word + " oak ")
        self.refused(self.desk, NoRow, "new  4", "copy oak ", "copy  oak", "copy  ", "lay oak ", "lay  elm", "lay  ")

    def test_too_few_and_too_many(self):
        self.refused(self.desk, NoRow, "new ash", "new ash 4 5", "new", "put oak", "put", "take oak", "take oak 3 5",
                     "tie oak", "tie oak 3", "tie oak 3 5", "tie oak 3 5 0 0", "back", "back oak 1", "back oak elm",
                     "wood", "wood oak 1", "wood oak elm", "count", "count oak 1", "groups oak", "groups oak 3 3",
                     "groups", "least oak", "least", "within oak", "within", "ask oak", "ask", "lay", "lay oak",
                     "lay oak elm oak", "lay oak elm 3", "copy", "copy oak", "copy oak elm ash", "copy oak ash 3")

    def test_words_that_are_no_numbers(self):
        bad = ("x", "-1", "+1", "00", "01", "007", "1.0", "1,", "0x1", "1_0", "oak", "#", "1e2", "1a", "a1", "--",
               "(1)",
               "9" * 61, "1" + "0" * 60, "0" * 60, "0" + "9" * 59, "9" * 100)
        for word in bad:
            self.refused(self.desk, NoRow, f"new ash {word}", f"put oak {word}", f"put oak {word} 1 1",
                         f"put oak 7 {word} 1", f"put oak 7 1 {word}", f"take oak {word}", f"tie oak {word} 5 0",
                         f"tie oak 3 {word} 0", f"tie oak 3 5 {word}", f"groups oak {word}", f"least oak {word}",
                         f"least oak 3 {word}", f"least oak {word} 3", f"within oak {word}", f"within oak 3 {word} 5",
                         f"ask oak {word}", f"ask oak 3 {word}")

    def test_whatever_the_names(self):
        for name in ("nut", "OAK", "abcdefghi", "oak1", "7", "{", "~"):
            self.refused(self.desk, NoRow, f"new {name}", f"new {name} x", f"new {name} 01", f"put {name}",
                         f"put {name} x", f"put {name} 7 -1", f"take {name}", f"take {name} x", f"tie {name} 3 5",
                         f"tie {name} 3 5 x", f"tie {name} 3 5 0 0", f"back {name} 1", f"wood {name} 1",
                         f"count {name} x",
                         f"groups {name}", f"groups {name} x", f"groups {name} {'9' * 61}", f"least {name}",
                         f"least {name} x", f"within {name}", f"within {name} 3 x", f"ask {name}", f"ask {name} 00",
                         f"lay {name}", f"lay {name} {name} {name}", f"copy {name}", f"copy {name} oak 3",
                         f" wood {name}", f"wood {name} ", f"wood  {name}", f"grow {name}")

    def test_ahead_of_the_refusals_of_deeds(self):
        self.refused(self.desk, NoRow, "put oak 3 x", "take oak 77 7", "tie oak 3 3 x", "tie oak 9 9", "ask oak 77 x",
                     "put oak 5 1 01")

    def test_every_sign_for_a_first_word_or_a_number(self):
        for sign in string.printable[:95].replace("%", ""):
            self.refused(self.desk, NoRow, sign, sign + " oak", "wood" + sign + " oak")
            if sign not in string.digits:
                self.refused(self.desk, NoRow, "new ash " + sign, "put oak 7 1 " + sign, "ask oak 3" + sign)


class NoNames(DeskCase):
    def setUp(self):
        self.desk = desk_with("new oak 3", "put oak 5 1")

    def tearDown(self):
        self.says(self.desk, ("wood oak", "{1 3 5}"), ("back oak", "/ (3 5)"))
        self.refused(self.desk, NoDeed, "back oak")

    BAD = ("abcdefghi", "a" * 9, "a" * 50, "Oak", "OAK", "oaK", "oak1", "1", "77", "o-k", "o_k", "{", "oak.", "/",
           "o'k",
           "~", "(oak)", "oak,")

    def one_named(self, name):
        return (f"put {name} 7 1 1", f"put {name} 7", f"take {name} 3", f"tie {name} 3 5 0", f"back {name}",
                f"wood {name}", f"count {name}", f"groups {name} 3", f"least {name} 3", f"within {name} 3",
                f"ask {name} 3 5", f"lay {name} oak", f"lay oak {name}", f"lay {name} {name}", f"copy {name} elm",
                f"copy {name} oak", f"copy {name} {name}")

    def test_no_name(self):
        for name in self.BAD:
            self.refused(self.desk, NoName, *self.one_named(name), f"new {name} 4", f"copy oak {name}")

    def test_no_grove_by_this_name(self):
        for name in ("elm", "o", "oa", "oaks", "abcdefgh", "wood", "new"):
            self.refused(self.desk, NoName, *self.one_named(name))

    def test_each_letter_is_one_and_no_other_sign_is(self):
        desk = Desk()
        for letter in string.ascii_lowercase:
            self.says(desk, (f"new {letter} 4", "ok"), (f"new x{letter}y 4", "ok"), (f"wood {letter}", "4"))
        for sign in string.printable[:94].replace("%", ""):
            if sign not in string.ascii_lowercase:
                self.refused(desk, NoName, f"new {sign} 4", f"new a{sign}b 4", f"copy a {sign}", f"copy a b{sign}")

    def test_the_empty_name_is_none(self):
        # No row of a right kind can hold it, so it is asked for by itself.
        self.assertFalse(is_name(""))

    def test_lengths(self):
        for length in range(1, 9):
            self.says(self.desk, (f"new {'z' * length} 4", "ok"), (f"copy oak {'q' * length}", "ok"))
        for length in range(9, 14):
            self.refused(self.desk, NoName, f"new {'z' * length} 4", f"copy oak {'q' * length}", f"wood {'z' * length}")

    def test_whatever_the_numbers(self):
        self.refused(self.desk, NoName, "put elm 3 1 1", "put elm 7", "take elm 77", "tie elm 3 3 0", "tie elm 77 78 0",
                     "least elm 77", "within elm 77", "ask elm 77", "groups elm 0", "put Oak 3", "take OAK 77")

    def test_a_name_that_is_refused_has_no_grove(self):
        self.refused(self.desk, NoName, "new Elm 4", "wood Elm", "new elmelmelm 4", "wood elmelmelm", "copy oak Elm",
                     "wood Elm", "copy ash elm", "wood elm", "wood ash")


class Refused(DeskCase):
    """Refused as told of groves; behind each refusal everything is as it was."""

    def setUp(self):
        self.desk = desk_with("new oak 3", "put oak 5 1", "put oak 7 1 2", "new elm 9")

    def tearDown(self):
        self.says(self.desk, ("wood oak", "{1 3 {2 5 7}}"), ("count oak", "5"), ("wood elm", "9"),
                  ("back oak", "(3 5) / (5 7) (3 5 7)"), ("back oak", "/ (3 5)"))
        self.refused(self.desk, NoDeed, "back oak", "back elm")

    def test_put(self):
        self.refused(self.desk, Taken, "put oak 3 1 1 1", "put oak 7 1 1 1", "put elm 9 1")
        self.refused(self.desk, NoColours, "put oak 4", "put oak 4 1", "put oak 4 1 1", "put oak 4 1 1 1 1",
                     "put elm 4",
                     "put elm 4 1 1")
        self.refused(self.desk, Taken, "put oak 3", "put oak 3 1", "put oak 5 1 1 1 1", "put elm 9")

    def test_put_with_twenty_four_places(self):
        self.desk.say("new ash 0")
        for place in range(1, 24):
            self.desk.say(f"put ash {place}" + "".join(f" {tint}" for tint in path_rows(24)[place]))
        known = self.desk.say("wood ash")
        self.refused(self.desk, NoNet, "put ash 24" + " 0" * 24, "put ash 0" + " 0" * 24, "put ash 24", "put ash 3 1")
        self.says(self.desk, ("wood ash", known), ("count ash", "25"))

    def test_take(self):
        self.refused(self.desk, NoPlace, "take oak 4", "take oak 0", "take elm 3", "take oak " + SIXTY)
        self.refused(self.desk, NoNet, "take elm 9")

    def test_tie(self):
        self.refused(self.desk, NoPlace, "tie oak 3 4 1", "tie oak 4 3 1", "tie oak 4 4 1", "tie elm 9 3 1")
        self.refused(self.desk, SamePlace, "tie oak 3 3 1", "tie elm 9 9 1")

    def test_sets(self):
        for word in ("least", "within", "ask"):
            self.refused(self.desk, NoPlace, f"{word} oak 4", f"{word} oak 3 4", f"{word} oak 4 3",
                         f"{word} oak 3 5 7 9",
                         f"{word} elm 3")

    def test_back(self):
        self.refused(self.desk, NoDeed, "back elm", "back elm")

    def test_lay(self):
        self.refused(self.desk, Unlike, "lay oak elm", "lay elm oak")


class DrawnRows(DeskCase):
    """A desk held against nets changed plainly, row by row."""

    def shown(self, sets):
        return ["(" + " ".join(map(str, some)) + ")" for some in sets]

    def changes(self, ahead, behind):
        came, fell = came_and_fell(wood_of(ahead), wood_of(behind))
        return " ".join(self.shown(came) + ["/"] + self.shown(fell))

    def deed(self, chance, desk, kept, name):
        net = kept[name][-1]
        drawn, changed = drawn_deed(chance, net, range(12), (0, 0, 1))
        numbers = [number for thing in drawn[1:] for number in (thing if isinstance(thing, list) else [thing])]
        self.says(desk, (f"{drawn[0]} {name} " + " ".join(map(str, numbers)), self.changes(net, changed)))
        kept[name].append(changed)

    def go_back(self, desk, kept, name):
        if len(kept[name]) == 1:
            self.refused(desk, NoDeed, f"back {name}")
        else:
            undone = kept[name].pop()
            self.says(desk, (f"back {name}", self.changes(undone, kept[name][-1])))

    def ask(self, chance, desk, net, name):
        some = [chance.choice(net[0]) for turn in range(chance.randrange(1, 5))]
        words = " ".join(map(str, some))
        told, most = teller(net, sorted(set(some))), chance.randrange(20)
        wood = wood_of(net)
        self.says(desk, (f"least {name} {words}", *self.shown([closed(net, some)])),
                  (f"within {name} {words}", " ".join(self.shown(greatest_within(net, some)))),
                  (f"ask {name} {words}", "yes" if told is None else "no " + " ".join(map(str, told))),
                  (f"wood {name}", show_wood(wood)), (f"count {name}", str(group_count(wood))))
        if group_count(wood) > 4000:
            self.refused(desk, TooMany, f"groups {name} {most}")
        else:
            sets, everything = groups(wood, most)
            self.says(desk, (f"groups {name} {most}", " ".join(self.shown(sets) + ["more"] * (not everything))))

    def lay_or_copy(self, chance, desk, kept, name):
        other = chance.choice(("oak", "elm", "ash"))
        if other in kept and kept[other][-1][0] == kept[name][-1][0]:
            self.says(desk, (f"lay {name} {other}", show_wood(wood_of(laid(kept[name][-1], kept[other][-1])))))
        elif other in kept:
            self.refused(desk, Unlike, f"lay {name} {other}")
        else:
            self.refused(desk, NoName, f"lay {name} {other}")
        if chance.randrange(3) == 0:
            self.says(desk, (f"copy {name} {other}", "ok"))
            kept[other] = [kept[name][-1]]

    def test_drawn_rows(self):
        chance = random.Random(28)
        desk = desk_with("new oak 0")
        kept = {"oak": [((0,), ((),))]}
        for turn in range(500):
            name = chance.choice(sorted(kept))
            kind = chance.randrange(10)
            if kind < 5:
                self.deed(chance, desk, kept, name)
            elif kind < 7:
                self.go_back(desk, kept, name)
            elif kind < 8:
                self.lay_or_copy(chance, desk, kept, name)
            else:
                self.ask(chance, desk, kept[name][-1], name)
            self.says(desk, *((f"wood {other}", show_wood(wood_of(kept[other][-1]))) for other in kept))


class Desks(DeskCase):
    def test_two_desks_know_nothing_of_one_another(self):
        one, other = Desk(), Desk()
        one.say("new oak 3")
        self.refused(other, NoName, "wood oak", "copy oak elm")
        other.say("new oak 8")
        self.says(one, ("put oak 5 1", "(3 5) /"), ("wood oak", "{1 3 5}"))
        self.says(other, ("wood oak", "8"), ("new elm 1", "ok"))
        self.refused(other, NoDeed, "back oak")
        self.refused(one, NoName, "wood elm", "lay oak elm")
        self.says(one, ("back oak", "/ (3 5)"))

    def test_a_new_desk_has_no_groves(self):
        for word in WORDS:
            with self.assertRaises(NetError):
                Desk().say(f"{word} oak")
        self.refused(Desk(), NoName, "wood oak", "count oak", "back oak", "put oak 1", "lay oak oak", "copy oak elm")

    def test_what_is_asked_changes_nothing(self):
        rows = ("wood oak", "count oak", "groups oak 3", "least oak 1 6", "within oak 1 3", "ask oak 1 3",
                "lay oak oak")
        desk = desk_with(*PLANTED)
        told = [desk.say(row) for row in rows]
        self.assertEqual([desk.say(row) for row in rows], told)
        self.says(desk, ("back oak", "(1 6) (1 3 6) / (1 3 6 8)"))

    def test_answers_are_texts_and_the_argument_has_its_name(self):
        desk = Desk()
        self.assertEqual(desk.say(row="new oak 3"), "ok")
        for row in ("wood oak", "count oak", "groups oak 0", "least oak 3", "within oak 3", "ask oak 3", "lay oak oak"):
            self.assertIs(type(desk.say(row)), str)


if __name__ == "__main__":
    unittest.main()
