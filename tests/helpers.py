"""What several tests share: houses, words, and a second way to the answers that uses nothing of the package."""

import itertools
import random

# For each turn the pull of the lesser mirror on the greater one, and of the greater on the lesser.
PULLS = {
    0: ((-2, 0), (-2, 0)),
    2: ((0, 0), (0, 0)),
    3: ((-1, 0), (-1, 0)),
    4: ((-2, 0), (-1, 0)),
    5: ((0, -1), (0, -1)),
    6: ((-3, 0), (-1, 0)),
}

LETTERS = "abcdef"


def house_of(text):
    """A house from a text of the form of point 6, for the tests' own use."""
    figure, *words = text.split(" ")
    return (int(figure), [(LETTERS.index(w[0]), LETTERS.index(w[1]), 0 if w[2] == "*" else int(w[2])) for w in words])


def word_of(text):
    return tuple(LETTERS.index(letter) for letter in text)


def house_with(mirrors, turns):
    pairs = itertools.combinations(range(mirrors), 2)
    return (mirrors, [(i, j, m) for (i, j), m in zip(pairs, turns) if m != 2])


def every_house(mirrors):
    pairs = mirrors * (mirrors - 1) // 2
    return [house_with(mirrors, turns) for turns in itertools.product((2, 3, 4, 5, 6, 0), repeat=pairs)]


UP_TO_TWO = every_house(1) + every_house(2)
UP_TO_THREE = UP_TO_TWO + every_house(3)

# Houses of one to six mirrors with every turn, circles, never ending ones with and without a never among them.
CHOICE = [house_of(text) for text in (
    "1", "2", "2 ab3", "2 ab4", "2 ab5", "2 ab6", "2 ab*",
    "3", "3 ab3 bc3", "3 ab3 bc4", "3 ab4 bc3", "3 ab3 bc5", "3 ab5 bc3", "3 ac3 bc6", "3 ab3 ac3 bc3", "3 ab4 ac5 bc6",
    "3 ab6 ac4 bc*", "3 ab* ac* bc*", "3 ab* bc3",
    "4 ab3 bc3 cd3", "4 ab3 bc4 cd3", "4 ab3 bc3 cd5", "4 ab3 bc3 bd3", "4 ab4 bc4 cd4 ad4", "4 ab6 cd*",
    "4 ab5 ac3 ad* bc6 cd4",
    "5 ab3 bc3 cd3 de3", "5 ae5 be3 ce4 de*", "5 ab* cd6",
    "6", "6 ab3 bc3 cd3 de3 ef3", "6 ab3 bc3 cd3 de3 cf3", "6 ab4 bc3 cd3 de3 ef4", "6 ab3 ac4 bd5 ce6 df*",
    "6 ab* ac* ad* ae* af* bc* bd* be* bf* cd* ce* cf* de* df* ef*",
    "6 ab6 ac6 ad6 ae6 af6 bc6 bd6 be6 bf6 cd6 ce6 cf6 de6 df6 ef6",
    "6 ab5 ac5 ad5 ae5 af5 bc5 bd5 be5 bf5 cd5 ce5 cf5 de5 df5 ef5",
)]


def every_word(mirrors, signs):
    return list(itertools.product(range(mirrors), repeat=signs))


def words_up_to(mirrors, signs):
    return [word for many in range(signs + 1) for word in every_word(mirrors, many)]


def some_words(house, how_many, most_signs, seed):
    chance = random.Random(seed)
    return [tuple(chance.choices(range(house[0]), k=chance.randint(0, most_signs))) for _ in range(how_many)]


def sixty_signs(house, how_many, seed):
    chance = random.Random(seed)
    return [tuple(chance.choices(range(house[0]), k=60)) for _ in range(how_many)]


def table_turn(house, i, j):
    for first, second, m in house[1]:
        if {first, second} == {i, j}:
            return m
    return 2


def table_pull(house, i, j):
    if i == j:
        return (2, 0)
    return PULLS[table_turn(house, i, j)][0 if i < j else 1]


def table_mirrored(house, i, row):
    a, b = row[i]
    for j, (c, d) in enumerate(row):
        e, f = table_pull(house, i, j)
        a -= e * c + f * d
        b -= e * d + f * c + f * d
    return tuple((a, b) if j == i else number for j, number in enumerate(row))


def table_simple(house, i):
    return tuple((1, 0) if j == i else (0, 0) for j in range(house[0]))


def table_led(house, word, row):
    for mirror in word[::-1]:
        row = table_mirrored(house, mirror, row)
    return row


def table_images(house, word):
    return [table_led(house, word, table_simple(house, i)) for i in range(house[0])]


def alternating(i, j, signs):
    return tuple(itertools.islice(itertools.cycle((i, j)), signs))


def moves_from(house, word):
    """Every move that can be done, with the word that comes of it."""
    for place in range(len(word) - 1):
        i, j = word[place], word[place + 1]
        if i == j:
            yield ("drop", place), word[:place] + word[place + 2:]
            continue
        m = table_turn(house, i, j)
        if m and word[place:place + m] == alternating(i, j, m):
            yield ("turn", place, i, j), word[:place] + alternating(j, i, m) + word[place + m:]


def reached(house, word):
    """All words to which one comes by moves: every short word that is the same is among them."""
    seen = {word}
    waiting = [word]
    while waiting:
        for _, other in moves_from(house, waiting.pop()):
            if other not in seen:
                seen.add(other)
                waiting.append(other)
    return seen


def table_least(house, word):
    return min(reached(house, word), key=lambda other: (len(other), other))


def table_walked(house, word, paper):
    for move in paper:
        word = dict(moves_from(house, word)).get(move)
        if word is None:
            return None
    return word


class Swaps:
    """A chain of mirrors as what it does to signed things in a row: mirror i swaps those at i and i + 1.

    With a turn by 4 at the end the last mirror changes the sign of the last thing instead.
    """

    def __init__(self, mirrors, with_four):
        turns = [(i, i + 1, 3) for i in range(mirrors - 1)]
        if with_four and mirrors > 1:
            turns[-1] = (mirrors - 2, mirrors - 1, 4)
        self.house = (mirrors, turns)
        self.with_four = with_four
        self.start = tuple(range(1, mirrors + (1 if with_four else 2)))
        self.words = self.all_words()

    def put_behind(self, things, mirror):
        things = list(things)
        if self.with_four and mirror == self.house[0] - 1:
            things[mirror] = -things[mirror]
        else:
            things[mirror], things[mirror + 1] = things[mirror + 1], things[mirror]
        return tuple(things)

    def of(self, word):
        things = self.start
        for mirror in word:
            things = self.put_behind(things, mirror)
        return things

    def all_words(self):
        """For each order of the things the first word, by signs and then sign by sign, that brings it."""
        words = {self.start: ()}
        waiting = [self.start]
        for things in waiting:
            for mirror in range(self.house[0]):
                other = self.put_behind(things, mirror)
                if other not in words:
                    words[other] = words[things] + (mirror,)
                    waiting.append(other)
        return words

    def least(self, word):
        return self.words[self.of(word)]


def without_pairs(word):
    """The least word in a house in which no two mirrors turn round."""
    kept = []
    for mirror in word:
        if kept and kept[-1] == mirror:
            kept.pop()
        else:
            kept.append(mirror)
    return tuple(kept)
