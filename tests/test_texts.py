import itertools
import random
import re
import unittest

from helper import (FLAT, GREAT, MIXED, PATH, PRIME, THREE, WOODS, RefusalCase, all_nets, ladder, many_woods, path_rows,
                    random_wood, wood_by_groups)
from modulewood.errors import NoText
from modulewood.texts import is_written_number, read_wood, show_wood
from modulewood.woods import is_wood

SIXTY = 10 ** 60 - 1
SIGNS = "".join(chr(k) for k in range(32, 127) if chr(k) != "%")

WRITTEN = (
    (0, "0"), (7, "7"), (10, "10"), (SIXTY, "9" * 60), (10 ** 59, "1" + "0" * 59),
    (FLAT, "{4 2 5 9}"),
    (("flat", 0, (0, 1)), "{0 0 1}"),
    (PRIME, "[1 3 6 8 : 1 0 1 0 0 1]"),
    (("prime", THREE, (0, 4, 6)), "[0 4 6 : 1 2 3]"),
    (("prime", ((), (10,), (20, 30)), (0, 40, 60)), "[0 40 60 : 10 20 30]"),
    (("flat", 7, (("prime", THREE, (0, ("flat", 7, (4, 11)), 6)), 5)), "{7 [0 {7 4 11} 6 : 1 2 3] 5}"),
    (("flat", 1, (("flat", 0, (0, 3)), ("flat", 0, (1, 2)))), "{1 {0 0 3} {0 1 2}}"),
    (("prime", THREE, (("prime", THREE, (0, 1, 2)), 3, ("prime", PATH, (4, 5, 6, 7)))),
     "[[0 1 2 : 1 2 3] 3 [4 5 6 7 : 1 0 1 0 0 1] : 1 2 3]"),
)


def written(wood):
    """The text of a wood, sign by sign as the document tells it."""
    if isinstance(wood, int):
        return str(wood)
    words = [written(branch) for branch in wood[2]]
    if wood[0] == "flat":
        return "{" + " ".join([str(wood[1])] + words) + "}"
    return "[" + " ".join(words + [":"] + [str(colour) for row in wood[1] for colour in row]) + "]"


class Strict:
    """A reader that takes a text sign by sign and nothing but what is written just so."""

    def __init__(self, text):
        self.text, self.at = text, 0

    def take(self, pattern):
        found = re.compile(pattern).match(self.text, self.at)
        if found is None:
            raise ValueError
        self.at = found.end()
        return found.group()

    def ahead(self, sign):
        return self.text.startswith(sign, self.at)

    def number(self):
        return int(self.take("0(?![0-9])|[1-9][0-9]*"))

    def wood(self):
        if self.ahead("{"):
            self.take("[{]")
            colour, branches = self.number(), []
            while not self.ahead("}"):
                self.take(" ")
                branches.append(self.wood())
            self.take("[}]")
            return ("flat", colour, tuple(branches))
        if self.ahead("["):
            self.take(r"\[")
            branches = [self.wood()]
            while not self.ahead(" :"):
                self.take(" ")
                branches.append(self.wood())
            self.take(" :")
            rows = tuple(tuple(self.take(" ") and self.number() for j in range(i)) for i in range(len(branches)))
            self.take(r"\]")
            return ("prime", rows, tuple(branches))
        return self.number()


def strictly_read(text):
    """The wood that the text writes, or None where it writes none."""
    reader = Strict(text)
    try:
        wood = reader.wood()
    except ValueError:
        return None
    return wood if reader.at == len(text) and is_wood(wood) else None


def small_woods():
    for net in itertools.chain(all_nets([7], [0]), all_nets([3, 17], [0, 5]), all_nets([0, 4, 19], [0, 1, 12]),
                               all_nets([2, 3, 5, 80], [0, 1])):
        yield wood_by_groups(net)


class Written(unittest.TestCase):
    def test_written_down(self):
        for wood, text in WRITTEN:
            self.assertEqual(show_wood(wood), text)
            self.assertEqual(read_wood(text), wood)

    def both_ways(self, wood):
        text = written(wood)
        self.assertEqual(show_wood(wood), text)
        told = read_wood(text)
        self.assertEqual(told, wood)
        self.assertIs(type(told), type(wood))

    def test_small_woods(self):
        for wood in small_woods():
            self.both_ways(wood)

    def test_many_woods(self):
        for wood in many_woods((2, 5, 9, 15), 6):
            if len(written(wood)) <= 3000:
                self.both_ways(wood)

    def test_twenty_four_places(self):
        chance = random.Random(25)
        for colours in ([0, 1], [0, 4, 10]):
            for turn in range(10):
                self.both_ways(random_wood(chance, chance.sample(range(1000), 24), colours))
        self.both_ways(("flat", 3, tuple(range(24))))
        self.both_ways(("prime", path_rows(24), tuple(range(24))))
        self.both_ways(ladder(0, 23))

    def test_sixty_figures(self):
        self.both_ways(("flat", SIXTY, tuple(SIXTY - k for k in range(23, -1, -1))))
        self.both_ways(("prime", ((), (SIXTY,), (SIXTY - 1, SIXTY - 2)), (0, 10 ** 59, SIXTY)))
        chance = random.Random(26)
        for turn in range(5):
            wood = random_wood(chance, [SIXTY - 3 * k for k in range(12)], [0, SIXTY, SIXTY - 1])
            self.both_ways(wood)

    def test_what_is_read_is_of_the_kinds_told(self):
        told = read_wood("{7 [0 {7 4 11} 6 : 1 2 3] 5}")
        self.assertEqual(repr(told), repr(WRITTEN[10][0]))

    def test_arguments_have_their_names(self):
        self.assertEqual(show_wood(wood=7), "7")
        self.assertEqual(read_wood(text="7"), 7)


class NotRead(RefusalCase):
    def not_read(self, *texts):
        for text in texts:
            with self.subTest(text):
                self.assertIsNone(strictly_read(text))
                self.refuse(NoText, read_wood, text)

    def test_the_empty_text_and_blanks(self):
        self.not_read("", " ", "  ", "   ")

    def test_blanks(self):
        for wood, text in WRITTEN:
            self.not_read(" " + text, text + " ", "  " + text, " " + text + " ")
            for found in re.finditer(" ", text):
                at = found.start()
                self.not_read(text[:at] + " " + text[at:])
            for found in re.finditer(r"[{}\[\]:]", text):
                at = found.start()
                self.not_read(text[:at] + " " + text[at:], text[:at + 1] + " " + text[at + 1:])

    def test_a_blank_missing(self):
        for text in ("{4 2{1 5 9}}", "{4{1 5 9} 2}", "[1 3 6 8: 1 0 1 0 0 1]", "[1 3 6 8 :1 0 1 0 0 1]",
                     "[1 3 6 8:1 0 1 0 0 1]", "{1 {0 0 3}{0 1 2}}", "{1 {0 0 3}4}"):
            self.not_read(text)

    def test_brackets(self):
        for wood, text in WRITTEN:
            for found in re.finditer(r"[{}\[\]]", text):
                at = found.start()
                # One missing, one too many, and each one of another kind.
                self.not_read(text[:at] + text[at + 1:], text[:at] + text[at] + text[at:])
                for sign in "{}[]()<>":
                    if sign != text[at]:
                        self.not_read(text[:at] + sign + text[at + 1:])
            for sign in "{}[]":
                self.not_read(sign + text, text + sign, text + " " + sign)
            self.not_read("(" + text + ")", "{" + text + "}", "[" + text + "]")
        self.not_read("{", "}", "[", "]", "{}", "[]", "[:]", "[ : ]", "][", "}{", "{{}}", "[[]]", "{[}]", "0}{0")

    def test_brackets_that_cross(self):
        self.not_read("{4 2 5 9]", "[4 2 5 9}", "[1 3 6 8 : 1 0 1 0 0 1}", "{1 3 6 8 : 1 0 1 0 0 1]",
                      "{1 {0 0 3] [0 1 2}}", "{1 {0 0 3}} {0 1 2}")

    def test_figures(self):
        self.not_read("00", "01", "007", "-1", "+1", "1.0", "1e3", "0x1", "1_0", "a", "1a", "a1", "#", "1,2", "--1",
                      "{04 2 5 9}", "{4 02 5 9}", "{4 2 5 09}", "{00 2 5 9}", "{-4 2 5 9}", "{4 -2 5 9}", "{+4 2 5 9}",
                      "{4 2 5 9.}", "[0 4 6 : 01 2 3]", "[0 4 6 : 1 2 -3]", "[00 4 6 : 1 2 3]", "[0 4 6 : 1 2 x]")

    def test_numbers_by_themselves(self):
        for word in ("0", "1", "10", "907", "9" * 60):
            self.assertTrue(is_written_number(word))
        for word in ("", "00", "01", "-0", "x", "1 ", " 1", "1x"):
            self.assertFalse(is_written_number(word))

    def test_other_words(self):
        self.not_read("flat", "prime", "leaf 0", "None", "True", "{flat 4 2 5}", "{4 2 5 x}", "(0 1)", "0 1", "4 2 5 9",
                      ":", "{:}", "{4 : 2 5}", "{: 2 5}", "{4 2 : 5}", "{4 2 5 :}", "/", "()", "{4 2 () 9}")

    def test_the_colon(self):
        self.not_read("[0 4 6 1 2 3]", "[0 4 6 : : 1 2 3]", "[0 4 6 : 1 : 2 3]", "[: 0 4 6 1 2 3]", "[0 4 6 1 2 3 :]",
                      "[0 4 6 ; 1 2 3]", "[0 4 : 6 1 2 3]", "[0 4 6 1 : 2 3]", "[0 4 6 :]", "[0 4 6]")

    def test_branches_out_of_order(self):
        self.not_read("{4 5 2 9}", "{4 2 9 5}", "{1 {0 1 2} {0 0 3}}", "{1 3 {0 0 4}}", "[4 0 6 : 1 2 3]",
                      "[0 6 4 : 1 2 3]", "[3 1 6 8 : 1 0 1 0 0 1]", "{1 {0 2 1} 3}", "{0 10 9}")

    def test_a_place_twice(self):
        self.not_read("{4 2 2 9}", "{4 2 5 5}", "{1 {0 0 3} {0 1 3}}", "{1 {0 0 3} {0 0 3}}", "[0 4 4 : 1 2 3]",
                      "[0 {7 4 6} 6 : 1 2 3]", "{7 [0 {7 4 11} 6 : 1 2 3] 4}")

    def test_a_flat_one_under_a_flat_one_of_its_colour(self):
        self.not_read("{4 2 {4 5 9}}", "{4 {4 2 5} 9}", "{0 {0 0 1} {0 2 3}}", "{7 [0 {7 4 {7 5 11}} 6 : 1 2 3] 8}")
        self.assertEqual(read_wood("{4 2 {5 5 9}}"), ("flat", 4, (2, ("flat", 5, (5, 9)))))

    def test_too_few_branches(self):
        self.not_read("{4}", "{4 2}", "{4 {5 0 1}}", "[0 : ]", "[0 :]", "[0 4 : 1]", "[0 4 : ]", "[ : 1 2 3]",
                      "[: 1 2 3]", "[]", "{}", "{4 2 {5 9}}", "[0 4 {7 6} : 1 2 3]")

    def test_colours_too_few_or_too_many(self):
        self.not_read("[0 4 6 : 1 2]", "[0 4 6 : 1 2 3 4]", "[0 4 6 : 1 2 3 0]", "[0 4 6 : 1]",
                      "[1 3 6 8 : 1 0 1 0 0]", "[1 3 6 8 : 1 0 1 0 0 1 0]", "[1 3 6 8 : 1 0 1 0 0 1 1]",
                      "[0 4 6 : 1 2 {7 8 9}]", "{{1 2 3} 4 5}")

    def test_a_prime_one_that_is_not_prime(self):
        self.not_read("[0 4 6 : 1 1 1]", "[0 4 6 : 1 1 2]", "[0 4 6 : 1 2 1]", "[0 4 6 : 2 1 1]",
                      "[1 3 6 8 : 0 0 0 0 0 0]", "[1 3 6 8 : 1 0 0 0 0 1]", "{7 [0 {7 4 11} 6 : 1 2 2] 5}")

    def test_more_than_twenty_four_places(self):
        for wood in (("flat", 3, tuple(range(25))), ("flat", 3, tuple(range(40))),
                     ("prime", path_rows(25), tuple(range(25))), ladder(0, 24), ladder(0, 30)):
            self.refuse(NoText, read_wood, written(wood))
        self.assertEqual(read_wood(written(ladder(0, 23))), ladder(0, 23))

    def test_many_signs_and_many_brackets(self):
        self.not_read("{" * 40, "[" * 40, "}" * 40, "{" * 40 + "}" * 40, "{0 " * 40 + "1" + "}" * 40,
                      "{0 1 " * 40 + "2" + "}" * 40, "0 " * 1500, "9" * 60 + " ", "{1 " + "0 " * 1490 + "0}",
                      "[" + "0 " * 700 + ": " + "1 " * 700 + "1]", "~" * 3000, " " * 3000)

    def test_each_text_of_few_signs(self):
        for length in range(1, 6):
            for signs in itertools.product("01{}[] :"[:8 if length < 5 else 6], repeat=length):
                self.either_way("".join(signs))

    def either_way(self, text):
        wood = strictly_read(text)
        if wood is None:
            self.refuse(NoText, read_wood, text)
        else:
            self.assertEqual(read_wood(text), wood)
            self.assertEqual(show_wood(wood), text)

    def test_each_sign_changed(self):
        for text in ("0", "31", "{4 2 5}", "{7 [0 {7 4 11} 6 : 1 2 3] 5}", "[1 3 6 8 : 1 0 1 0 0 1]"):
            for at in range(len(text) + 1):
                self.either_way(text[:at] + text[at + 1:])
                for sign in SIGNS:
                    self.either_way(text[:at] + sign + text[at:])
                    self.either_way(text[:at] + sign + text[at + 1:])

    def test_words_changed(self):
        chance = random.Random(27)
        texts = [written(wood) for wood in itertools.islice(small_woods(), 0, None, 7)]
        texts += [written(random_wood(chance, chance.sample(range(30), 9), [0, 1, 2])) for turn in range(20)]
        for text in texts:
            words = re.findall(r"[0-9]+|[{}\[\]:]| ", text)
            for turn in range(40):
                at, other = chance.randrange(len(words)), chance.randrange(len(words))
                changed = list(words)
                changed[at], changed[other] = changed[other], changed[at]
                if chance.randrange(2):
                    changed[at] = chance.choice(("0", "1", "2", "00", "12", "{", "}", "[", "]", ":", " "))
                self.either_way("".join(changed))


class WrittenStays(unittest.TestCase):
    def test_every_wood_has_a_text_of_its_own(self):
        woods = list(small_woods())
        self.assertEqual(len({show_wood(wood) for wood in woods}), len(set(woods)))

    def test_woods_written_twice_are_written_alike(self):
        for wood in WOODS:
            self.assertEqual(show_wood(wood), show_wood(wood))
        self.assertEqual(show_wood(MIXED), written(MIXED))
        self.assertEqual(show_wood(GREAT), str(GREAT))


if __name__ == "__main__":
    unittest.main()
