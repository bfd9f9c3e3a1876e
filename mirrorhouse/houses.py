"""Houses and words of mirrors: turns and pulls, and how both are written in texts."""

from mirrorhouse.errors import NoHouse, NoText, NoWord
from mirrorhouse.golden import minus

LETTERS = "abcdef"
MIRROR_FIGURES = "123456"
TURN_FIGURES = "3456"
NEVER = 0
NEVER_SIGN = "*"
NOT_TOLD = 2
TOLD_TURNS = (0, 3, 4, 5, 6)
EMPTY_WORD = "1"

# By how much less than nought the lesser of two mirrors pulls on the greater one, by their turn.
PULLS_BELOW_NOUGHT = {0: (2, 0), 2: (0, 0), 3: (1, 0), 4: (2, 0), 5: (0, 1), 6: (3, 0)}


def check_house(house):
    mirrors = house[0]
    if not 1 <= mirrors <= len(LETTERS):
        raise NoHouse("a house has 1 to 6 mirrors")
    seen = {}
    for i, j, m in house[1]:
        if not 0 <= i < j < mirrors:
            raise NoHouse("a turn is told of two mirrors of the house, the lesser first")
        if m not in TOLD_TURNS:
            raise NoHouse("two mirrors turn round by 3, 4, 5 or 6, or never, which is 0")
        if (i, j) in seen:
            raise NoHouse("two mirrors are told twice")
        seen[(i, j)] = True


def turn_of(house, i, j):
    lesser = min(i, j)
    greater = max(i, j)
    for first, second, m in house[1]:
        if first == lesser and second == greater:
            return m
    return NOT_TOLD


def pull(house, i, j):
    if i == j:
        return (2, 0)
    turn = turn_of(house, i, j)
    # Turns by 4 and by 6 alone pull unlike in their two directions.
    if i > j and turn in (4, 6):
        return (-1, 0)
    return minus(PULLS_BELOW_NOUGHT[turn])


def is_turn_text(word):
    if len(word) != 3:
        return False
    return word[0] in LETTERS and word[1] in LETTERS and word[2] in TURN_FIGURES + NEVER_SIGN


def read_turn(word):
    m = NEVER if word[2] == NEVER_SIGN else int(word[2])
    return (LETTERS.index(word[0]), LETTERS.index(word[1]), m)


def read_house(text):
    words = text.split(" ")
    if len(words[0]) != 1 or words[0] not in MIRROR_FIGURES:
        raise NoText("a house begins with one figure of 1 to 6")
    # All words are looked at ahead of any turn, since NoText goes ahead of NoHouse.
    for word in words[1:]:
        if not is_turn_text(word):
            raise NoText("behind the figure stand two letters of a to f and one of 3456*, each with one blank ahead")
    house = (int(words[0]), sorted([read_turn(word) for word in words[1:]]))
    check_house(house)
    return house


def shown_turn(i, j, m):
    figure = NEVER_SIGN if m == NEVER else str(m)
    return LETTERS[i] + LETTERS[j] + figure


def shown_house(house):
    turns = [shown_turn(i, j, m) for i, j, m in sorted(house[1])]
    return " ".join([str(house[0])] + turns)


def read_word(house, text):
    if text == EMPTY_WORD:
        return ()
    if text == "":
        raise NoText("the empty word is written as 1")
    if any([letter not in LETTERS for letter in text]):
        raise NoText("a word is written by letters of a to f")
    word = tuple([LETTERS.index(letter) for letter in text])
    if max(word) >= house[0]:
        raise NoWord("a letter is beyond the mirrors of the house")
    return word


def shown_word(word):
    if len(word) == 0:
        return EMPTY_WORD
    return "".join([LETTERS[mirror] for mirror in word])
