"""A desk: groves kept by names, told rows, answering texts."""

from modulewood.asked import groups
from modulewood.errors import NoName
from modulewood.grove import Grove, grove_like
from modulewood.laying import laid
from modulewood.making import wood_of
from modulewood.rows import is_name, read_row
from modulewood.texts import show_numbers, show_set, show_wood, shown_one_by_one


def show_changes(changes):
    return " ".join(shown_one_by_one(changes[0]) + ["/"] + shown_one_by_one(changes[1]))


def answer_put(grove, numbers):
    return show_changes(grove.put(numbers[0], numbers[1:]))


def answer_take(grove, numbers):
    return show_changes(grove.take(numbers[0]))


def answer_tie(grove, numbers):
    return show_changes(grove.tie(numbers[0], numbers[1], numbers[2]))


def answer_back(grove, numbers):
    return show_changes(grove.back())


def answer_wood(grove, numbers):
    return show_wood(grove.wood())


def answer_count(grove, numbers):
    return str(grove.group_count())


def answer_groups(grove, numbers):
    told = groups(grove.wood(), numbers[0])
    return " ".join(shown_one_by_one(told[0]) + ([] if told[1] else ["more"]))


def answer_least(grove, numbers):
    return show_set(grove.least_group(numbers))


def answer_within(grove, numbers):
    return " ".join(shown_one_by_one(grove.greatest_in(numbers)))


def answer_ask(grove, numbers):
    found = grove.teller(numbers)
    return "yes" if found is None else "no " + show_numbers(found)


# By the first word of the rows that speak of one grove alone; they all take the row's numbers, even where it has none.
ANSWERS = {
    "put": answer_put,
    "take": answer_take,
    "tie": answer_tie,
    "back": answer_back,
    "wood": answer_wood,
    "count": answer_count,
    "groups": answer_groups,
    "least": answer_least,
    "within": answer_within,
    "ask": answer_ask,
}


def require_grove(groves, name):
    # Only a name has a grove, so a word that is none is refused here, too.
    if name not in groves:
        raise NoName("no grove has this name")


def require_name(word):
    if not is_name(word):
        raise NoName("a name is one to eight small letters")


class Desk:
    def __init__(self):
        self.groves = {}

    def say(self, row):
        said = read_row(row)
        for name in said[1]:
            require_grove(self.groves, name)
        for name in said[2]:
            require_name(name)
        return self.answer(said[0], [self.groves[name] for name in said[1]], said[2], said[3])

    def answer(self, word, standing, coming, numbers):
        if word == "new":
            return self.keep(coming[0], Grove(numbers[0]))
        if word == "copy":
            return self.keep(coming[0], grove_like(standing[0]))
        if word == "lay":
            return show_wood(wood_of(laid(standing[0].net(), standing[1].net())))
        told = ANSWERS[word]
        return told(standing[0], numbers)

    def keep(self, name, grove):
        self.groves[name] = grove
        return "ok"
