"""The rows that a desk is told: their kinds, and the names and numbers in them."""

from modulewood.errors import NoRow
from modulewood.texts import is_written_number

LETTERS = "abcdefghijklmnopqrstuvwxyz"
MOST_LETTERS = 8
MOST_FIGURES = 60
# By a row's first word: how many names of groves that stand, how many of groves that come, the fewest
# numbers, and whether more of them may follow.
KINDS = {
    "new": (0, 1, 1, False),
    "put": (1, 0, 1, True),
    "take": (1, 0, 1, False),
    "tie": (1, 0, 3, False),
    "back": (1, 0, 0, False),
    "wood": (1, 0, 0, False),
    "count": (1, 0, 0, False),
    "groups": (1, 0, 1, False),
    "least": (1, 0, 1, True),
    "within": (1, 0, 1, True),
    "ask": (1, 0, 1, True),
    "lay": (2, 0, 0, False),
    "copy": (1, 1, 0, False),
}


def is_name(word):
    return len(word) > 0 and len(word) <= MOST_LETTERS and all([sign in LETTERS for sign in word])


def is_row_number(word):
    return is_written_number(word) and len(word) <= MOST_FIGURES


def is_right_length(length, fewest, more):
    return length == fewest or (more and length > fewest)


# A tuple (first word, names of groves that stand, names of groves that come, numbers). The names are any
# words: whether they are names is asked of a row of a right kind alone.
def read_row(row):
    words = row.split(" ")
    # A blank too many leaves an empty word, which might else pass for a name.
    if "" in words or words[0] not in KINDS:
        raise NoRow("a row begins with a word that is known, and has single blanks")
    kind = KINDS[words[0]]
    coming = 1 + kind[0]
    numbered = coming + kind[1]
    figures = words[numbered:]
    if len(words) < numbered or not is_right_length(len(figures), kind[2], kind[3]):
        raise NoRow("the row has another number of words")
    if not all([is_row_number(word) for word in figures]):
        raise NoRow("a word that should be a number is none")
    return (words[0], words[1:coming], words[coming:numbered], [int(word) for word in figures])
