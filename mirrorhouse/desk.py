"""The desk: rows of text are said to it one by one, and each is answered by a text."""

from mirrorhouse.errors import Endless, NoHouse, NoText, NoWord
from mirrorhouse.golden import shown_number
from mirrorhouse.houses import LETTERS, read_house, read_word, shown_word
from mirrorhouse.kinds import counts, kinds, size
from mirrorhouse.least import least, parted, turned
from mirrorhouse.rooms import below
from mirrorhouse.words import is_short, length

BLANK = " "
WHAT = "what"
NEVER_ENDING = "never"


def yes_or_no(truth):
    return "yes" if truth else "no"


def say_least(house, word):
    return shown_word(least(house, word))


def say_short(house, word):
    return yes_or_no(is_short(house, word))


def say_length(house, word):
    return str(length(house, word))


def shown_row(row):
    return ",".join([shown_number(number) for number in row])


def say_turns(house, word):
    rows = turned(house, word)
    if len(rows) == 0:
        return "none"
    return " ".join([shown_row(row) for row in rows])


def say_same(house, one, other):
    mirror = parted(house, one, other)
    if mirror is None:
        return "yes"
    return "no " + LETTERS[mirror]


def say_below(house, one, other):
    # No places at all is an answer too: that of the empty word.
    return yes_or_no(below(house, one, other) is not None)


def say_kinds(house):
    return " ".join([kind for part, kind in kinds(house)])


def say_size(house):
    try:
        return str(size(house))
    except Endless:
        return NEVER_ENDING


def say_counts(house):
    try:
        return " ".join([str(number) for number in counts(house)])
    except Endless:
        return NEVER_ENDING


OF_THE_HOUSE = {"kinds": say_kinds, "size": say_size, "counts": say_counts}
OF_ONE_WORD = {"least": say_least, "short": say_short, "length": say_length, "turns": say_turns}
OF_TWO_WORDS = {"same": say_same, "below": say_below}


def say_of_one(house, question, text):
    return OF_ONE_WORD[question](house, read_word(house, text))


def say_of_two(house, question, texts):
    if len(texts) != 2:
        return WHAT
    # The first one that is refused is answered, so they are read in order.
    one = read_word(house, texts[0])
    other = read_word(house, texts[1])
    return OF_TWO_WORDS[question](house, one, other)


class Desk:
    def __init__(self):
        self.house = (1, [])

    def answer_alone(self, question):
        if question in OF_THE_HOUSE:
            return OF_THE_HOUSE[question](self.house)
        return WHAT

    def answer_with_rest(self, question, rest):
        if question == "house":
            self.house = read_house(rest)
            return "ok"
        if question in OF_ONE_WORD:
            return say_of_one(self.house, question, rest)
        if question in OF_TWO_WORDS:
            return say_of_two(self.house, question, rest.split(BLANK))
        return WHAT

    def say(self, row):
        if BLANK not in row:
            return self.answer_alone(row)
        cut = row.partition(BLANK)
        try:
            return self.answer_with_rest(cut[0], cut[2])
        except NoText:
            return "no text"
        except NoHouse:
            return "no house"
        except NoWord:
            return "no word"
