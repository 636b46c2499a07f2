"""Woods and sets as texts, and woods read from texts."""

from modulewood.errors import NoText
from modulewood.knots import branches_of, is_flat, is_leaf
from modulewood.woods import is_wood

FIGURES = "0123456789"
COLON = ":"


def is_written_number(word):
    if len(word) == 0 or not all([sign in FIGURES for sign in word]):
        return False
    return word == "0" or not word.startswith("0")


def show_numbers(numbers):
    return " ".join([str(number) for number in numbers])


def show_set(some):
    return "(" + show_numbers(some) + ")"


def shown_one_by_one(sets):
    return [show_set(some) for some in sets]


# A wood of so many places lies no deeper than it has places, so neither do the calls within calls.
def show_wood(wood):
    if is_leaf(wood):
        return str(wood)
    branches = " ".join([show_wood(branch) for branch in branches_of(wood)])
    if is_flat(wood):
        return "{" + str(wood[1]) + " " + branches + "}"
    tints = []
    for row in wood[1]:
        tints.extend(row)
    return "[" + branches + " " + COLON + " " + show_numbers(tints) + "]"


def words_of(text):
    for sign in ("{", "}", "[", "]"):
        text = text.replace(sign, " " + sign + " ")
    return text.split()


def rows_from(tints, length):
    rows = []
    taken = 0
    for i in range(length):
        rows.append(tuple(tints[taken:taken + i]))
        taken = taken + i
    return tuple(rows)


def flat_from(parts):
    if len(parts) == 0:
        return None
    return ("flat", parts[0], tuple(parts[1:]))


def prime_from(parts):
    if COLON not in parts:
        return None
    cut = parts.index(COLON)
    return ("prime", rows_from(parts[cut + 1:], cut), tuple(parts[:cut]))


def part_from(word):
    if is_written_number(word):
        return int(word)
    return COLON if word == COLON else None


# What is read may be anything: where it is no wood the reader is told so later. None stands for what can't be read.
def thing_from(words):
    begun = [[]]
    for word in words:
        if word == "{" or word == "[":
            begun.append([])
        elif word == "}" or word == "]":
            parts = begun.pop()
            if len(begun) == 0:
                return None
            begun[-1].append(flat_from(parts) if word == "}" else prime_from(parts))
        else:
            begun[-1].append(part_from(word))
    return begun[0][0] if len(begun[0]) == 1 else None


# Blanks, kinds of brackets, brackets left without an end and colours too many are not looked at while reading:
# a text that is not just what would be written shows when the wood is written again.
def read_wood(text):
    thing = thing_from(words_of(text))
    if not is_wood(thing) or show_wood(thing) != text:
        raise NoText("the text writes no wood")
    return thing
