"""What several tests share: houses, words, and a second way to the answers that uses nothing of the package."""

import itertools
import random

# For each turn the pull of the lesser mirror on the greater one, and of the greater on the lesser.
PULLS = {
    0: ((-2, 0), (-2, 0)),
    2: ((0, 0), (0, 0)),
    3: ((-1, 0), (-1, 0)),
    4: ((-2, 0), (-1, 0)),
    5: ((0, -1), (0, -1)),
    6: ((-3, 0), (-1, 0)),
}

LETTERS = "abcdef"


def house_of(text):
    """A house from a text of the form of point 6, for the tests' own use."""
    figure, *words = text.split(" ")
    return (int(figure), [(LETTERS.index(w[0]), LETTERS.index(w[1]), 0 if w[2] == "*" else int(w[2])) for w in words])


def word_of(text):
    return tuple(LETTERS.index(letter) for letter in text)


def house_with(mirrors, turns):
    pairs = itertools.combinations(range(mirrors), 2)
    return (mirrors, [(i, j, m) for (i, j), m in zip(pairs, turns) if m != 2])


def every_house(mirrors):
    pairs = mirrors * (mirrors - 1) // 2
    return [house_with(mirrors, turns) for turns in itertools.product((2, 3, 4, 5, 6, 0), repeat=pairs)]


UP_TO_TWO = every_house(1) + every_house(2)
UP_TO_THREE = UP_TO_TWO + every_house(3)

# Houses of one to six mirrors with every turn, circles, never ending ones with and without a never among them.
CHOICE = [house_of(text) for text in (
    "1", "2", "2 ab3", "2 ab4", "2 ab5", "2 ab6", "2 ab*",
    "3", "3 ab3 bc3", "3 ab3 bc4", "3 ab4 bc3", "3 ab3 bc5", "3 ab5 bc3", "3 ac3 bc6", "3 ab3 ac3 bc3", "3 ab4 ac5 bc6",
    "3 ab6 ac4 bc*", "3 ab* ac* bc*", "3 ab* bc3",
    "4 ab3 bc3 cd3", "4 ab3 bc4 cd3", "4 ab3 bc3 cd5", "4 ab3 bc3 bd3", "4 ab4 bc4 cd4 ad4", "4 ab6 cd*",
    "4 ab5 ac3 ad* bc6 cd4",
    "5 ab3 bc3 cd3 de3", "5 ae5 be3 ce4 de*", "5 ab* cd6",
    "6", "6 ab3 bc3 cd3 de3 ef3", "6 ab3 bc3 cd3 de3 cf3", "6 ab4 bc3 cd3 de3 ef4", "6 ab3 ac4 bd5 ce6 df*",
    "6 ab* ac* ad* ae* af* bc* bd* be* bf* cd* ce* cf* de* df* ef*",
    "6 ab6 ac6 ad6 ae6 af6 bc6 bd6 be6 bf6 cd6 ce6 cf6 de6 df6 ef6",
    "6 ab5 ac5 ad5 ae5 af5 bc5 bd5 be5 bf5 cd5 ce5 cf5 de5 df5 ef5",
)]


def every_word(mirrors, signs):
    return list(itertools.product(range(mirrors), repeat=signs))


def words_up_to(mirrors, signs):
    return [word for many in range(signs + 1) for word in every_word(mirrors, many)]


def some_words(house, how_many, most_signs, seed):
    chance = random.Random(seed)
    return [tuple(chance.choices(range(house[0]), k=chance.randint(0, most_signs))) for _ in range(how_many)]


def sixty_signs(house, how_many, seed):
    chance = random.Random(seed)
    return [tuple(chance.choices(range(house[0]), k=60)) for _ in range(how_many)]


def table_turn(house, i, j):
    for first, second, m in house[1]:
        if {first, second} == {i, j}:
            return m
    return 2


def table_pull(house, i, j):
    if i == j:
        return (2, 0)
    return PULLS[table_turn(house, i, j)][0 if i < j else 1]


def table_mirrored(house, i, row):
    a, b = row[i]
    for j, (c, d) in enumerate(row):
        e, f = table_pull(house, i, j)
        a -= e * c + f * d
        b -= e * d + f * c + f * d
    return tuple((a, b) if j == i else number for j, number in enumerate(row))


def table_simple(house, i):
    return tuple((1, 0) if j == i else (0, 0) for j in range(house[0]))


def table_led(house, word, row):
    for mirror in word[::-1]:
        row = table_mirrored(house, mirror, row)
    return row


def table_images(house, word):
    return [table_led(house, word, table_simple(house, i)) for i in range(house[0])]


def alternating(i, j, signs):
    return tuple(itertools.islice(itertools.cycle((i, j)), signs))


def moves_from(house, word):
    """Every move that can be done, with the word that comes of it."""
    for place in range(len(word) - 1):
        i, j = word[place], word[place + 1]
        if i == j:
            yield ("drop", place), word[:place] + word[place + 2:]
            continue
        m = table_turn(house, i, j)
        if m and word[place:place + m] == alternating(i, j, m):
            yield ("turn", place, i, j), word[:place] + alternating(j, i, m) + word[place + m:]


def reached(house, word):
    """All words to which one comes by moves: every short word that is the same is among them."""
    seen = {word}
    waiting = [word]
    while waiting:
        for _, other in moves_from(house, waiting.pop()):
            if other not in seen:
                seen.add(other)
                waiting.append(other)
    return seen


def table_least(house, word):
    return min(reached(house, word), key=lambda other: (len(other), other))


def table_walked(house, word, paper):
    for move in paper:
        word = dict(moves_from(house, word)).get(move)
        if word is None:
            return None
    return word


class Swaps:
    """A chain of mirrors as what it does to signed things in a row: mirror i swaps those at i and i + 1.

    With a turn by 4 at the end the last mirror changes the sign of the last thing instead.
    """

    def __init__(self, mirrors, with_four):
        turns = [(i, i + 1, 3) for i in range(mirrors - 1)]
        if with_four and mirrors > 1:
            turns[-1] = (mirrors - 2, mirrors - 1, 4)
        self.house = (mirrors, turns)
        self.with_four = with_four
        self.start = tuple(range(1, mirrors + (1 if with_four else 2)))
        self.words = self.all_words()

    def put_behind(self, things, mirror):
        things = list(things)
        if self.with_four and mirror == self.house[0] - 1:
            things[mirror] = -things[mirror]
        else:
            things[mirror], things[mirror + 1] = things[mirror + 1], things[mirror]
        return tuple(things)

    def of(self, word):
        things = self.start
        for mirror in word:
            things = self.put_behind(things, mirror)
        return things

    def all_words(self):
        """For each order of the things the first word, by signs and then sign by sign, that brings it."""
        words = {self.start: ()}
        waiting = [self.start]
        for things in waiting:
            for mirror in range(self.house[0]):
                other = self.put_behind(things, mirror)
                if other not in words:
                    words[other] = words[things] + (mirror,)
                    waiting.append(other)
        return words

    def least(self, word):
        return self.words[self.of(word)]


def without_pairs(word):
    """The least word in a house in which no two mirrors turn round."""
    kept = []
    for mirror in word:
        if kept and kept[-1] == mirror:
            kept.pop()
        else:
            kept.append(mirror)
    return tuple(kept)


def chain_of(*turns):
    """A house whose mirrors in order turn round so, each with the one behind it."""
    return (len(turns) + 1, [(i, i + 1, m) for i, m in enumerate(turns)])


def chain_with_one_beside(mirrors, beside):
    """A chain whose last mirror stands beside the mirror told, not at its end; all turn round by 3."""
    return (mirrors, [(i, i + 1, 3) for i in range(mirrors - 2)] + [(beside, mirrors - 1, 3)])


# One house of each kind but the never ending one.
KIND_HOUSES = {
    "a1": chain_of(), "a2": chain_of(3), "a3": chain_of(3, 3), "a4": chain_of(3, 3, 3), "a5": chain_of(3, 3, 3, 3),
    "a6": chain_of(3, 3, 3, 3, 3),
    "b2": chain_of(4), "b3": chain_of(3, 4), "b4": chain_of(3, 3, 4), "b5": chain_of(3, 3, 3, 4),
    "b6": chain_of(3, 3, 3, 3, 4),
    "d4": chain_with_one_beside(4, 1), "d5": chain_with_one_beside(5, 1), "d6": chain_with_one_beside(6, 1),
    "e6": chain_with_one_beside(6, 2),
    "f4": chain_of(3, 4, 3), "h3": chain_of(3, 5), "h4": chain_of(3, 3, 5), "i5": chain_of(5), "i6": chain_of(6),
}

KIND_DEGREES = {
    "a1": [2], "a2": [2, 3], "a3": [2, 3, 4], "a4": [2, 3, 4, 5], "a5": [2, 3, 4, 5, 6], "a6": [2, 3, 4, 5, 6, 7],
    "b2": [2, 4], "b3": [2, 4, 6], "b4": [2, 4, 6, 8], "b5": [2, 4, 6, 8, 10], "b6": [2, 4, 6, 8, 10, 12],
    "d4": [2, 4, 4, 6], "d5": [2, 4, 5, 6, 8], "d6": [2, 4, 6, 6, 8, 10],
    "e6": [2, 5, 6, 8, 9, 12], "f4": [2, 6, 8, 12], "h3": [2, 6, 10], "h4": [2, 12, 20, 30],
    "i5": [2, 5], "i6": [2, 6],
}


def ring_of(*turns):
    last = len(turns) - 1
    return (len(turns), [(i, i + 1, m) for i, m in enumerate(turns[:-1])] + [(0, last, turns[-1])])


def star_of(*turns):
    return (len(turns) + 1, [(0, i, m) for i, m in enumerate(turns, start=1)])


# Parts that are nearly of a kind, but are not.
NEARLY = (
    [ring_of(*[3] * mirrors) for mirrors in (3, 4, 5, 6)]
    + [ring_of(3, 3, 4), ring_of(3, 4, 5), ring_of(6, 6, 6), ring_of(3, 3, 3, 0), ring_of(3, 3, 3, 3, 4)]
    # A mirror with four neighbours or five.
    + [star_of(3, 3, 3, 3), star_of(3, 3, 3, 3, 3), (6, [(0, 1, 3), (0, 2, 3), (0, 3, 3), (0, 4, 3), (4, 5, 3)])]
    # Two mirrors with three neighbours.
    + [(6, [(0, 2, 3), (1, 2, 3), (2, 3, 3), (3, 4, 3), (3, 5, 3)])]
    # A mirror with three neighbours, and a ring.
    + [(4, [(0, 1, 3), (1, 2, 3), (2, 3, 3), (1, 3, 3)]), (5, [(0, 1, 3), (1, 2, 3), (2, 3, 3), (1, 3, 3), (3, 4, 3)]),
       (6, [(0, 1, 3), (1, 2, 3), (2, 3, 3), (3, 4, 3), (4, 5, 3), (1, 5, 3)])]
    # A mirror with three neighbours, and one turn that is not by 3.
    + [star_of(3, 3, m) for m in (4, 5, 6, 0)]
    + [(5, [(0, 1, 3), (1, 2, 3), (2, 3, m), (1, 4, 3)]) for m in (4, 5, 6, 0)]
    + [(6, [(0, 1, 3), (1, 2, 3), (2, 3, 3), (3, 4, 3), (2, 5, m)]) for m in (4, 5, 6, 0)]
    + [(6, [(0, 1, m), (1, 2, 3), (2, 3, 3), (3, 4, 3), (2, 5, 3)]) for m in (4, 5, 6, 0)]
    # A 4 at another place.
    + [chain_of(3, 4, 3, 3), chain_of(3, 3, 4, 3, 3), chain_of(3, 4, 3, 3, 3)]
    # A 5 at another place, or too many mirrors with it.
    + [chain_of(3, 5, 3), chain_of(3, 3, 3, 5), chain_of(3, 3, 3, 3, 5), chain_of(3, 3, 5, 3), chain_of(3, 3, 5, 3, 3)]
    # A 6 with more than two mirrors.
    + [chain_of(3, 6), chain_of(3, 6, 3), chain_of(3, 3, 6), chain_of(3, 3, 3, 6), chain_of(3, 3, 3, 3, 6)]
    # Two of them.
    + [chain_of(one, other) for one in (4, 5, 6) for other in (4, 5, 6)]
    + [chain_of(one, 3, other) for one in (4, 5, 6) for other in (4, 5, 6)]
    + [chain_of(4, 3, 3, 4), chain_of(4, 3, 3, 3, 4), chain_of(3, 4, 4), chain_of(3, 4, 5), chain_of(4, 3, 3, 3, 5)]
    # Never.
    + [chain_of(0), chain_of(3, 0), chain_of(0, 0), chain_of(3, 0, 3), chain_of(3, 3, 0), chain_of(4, 0),
       chain_of(3, 3, 3, 3, 0), chain_of(5, 0), chain_of(0, 6)]
)


def renumbered(house, numbering):
    """The house with the mirror i called numbering[i]."""
    turns = [(*sorted((numbering[i], numbering[j])), m) for i, j, m in house[1]]
    return (house[0], turns)


def beside(houses):
    """All the houses together as the parts of one."""
    mirrors = 0
    turns = []
    for house in houses:
        turns += [(mirrors + i, mirrors + j, m) for i, j, m in house[1]]
        mirrors += house[0]
    return (mirrors, turns)


def every_numbering(mirrors):
    return list(itertools.permutations(range(mirrors)))


def some_numberings(mirrors, how_many, seed):
    chance = random.Random(seed)
    return [tuple(chance.sample(range(mirrors), mirrors)) for _ in range(how_many)]


def kinds_together(most_mirrors, names):
    """Every choice of kinds, also one several times, with at most so many mirrors together."""
    choices = []
    for many in range(1, most_mirrors + 1):
        for choice in itertools.combinations_with_replacement(names, many):
            if sum(KIND_HOUSES[name][0] for name in choice) <= most_mirrors:
                choices.append(choice)
    return choices


def table_roots(house, most):
    """The roots above nought, or None where there are more than most."""
    roots = {table_simple(house, i) for i in range(house[0])}
    waiting = list(roots)
    while waiting and len(roots) <= most:
        root = waiting.pop()
        for i in range(house[0]):
            other = table_mirrored(house, i, root)
            if root != table_simple(house, i) and other not in roots:
                roots.add(other)
                waiting.append(other)
    return roots if len(roots) <= most else None


def table_levels(house, most_signs):
    """For each number of signs up to most the least words, in order, as long as there are some."""
    start = tuple(table_simple(house, i) for i in range(house[0]))
    before, level, levels = {}, {start: ()}, []
    while level and len(levels) <= most_signs:
        levels.append(sorted(level.values()))
        longer = {}
        for rows, word in level.items():
            # A sign is put ahead: what is left of a least word without its first sign is a least word too.
            for i in range(house[0]):
                other = tuple(table_mirrored(house, i, row) for row in rows)
                if other not in before:
                    longer[other] = min((i,) + word, longer.get(other, (house[0],)))
        before, level = level, longer
    return levels


def steps_from_a_corner(house):
    """How many places lie at each number of steps, by numbers that stand at the mirrors and are passed to neighbours.

    At the beginning there's a 1 at each mirror; a mirror changes the sign of its number and passes it on.
    """
    pulls = [[(j, table_pull(house, i, j)) for j in range(house[0]) if table_turn(house, i, j) != 2 or i == j]
             for i in range(house[0])]
    before, level, told = set(), {((1, 0),) * house[0]}, []
    while level:
        told.append(len(level))
        further = set()
        for numbers in level:
            for i in range(house[0]):
                a, b = numbers[i]
                passed = list(numbers)
                for j, (c, d) in pulls[i]:
                    e, f = passed[j]
                    passed[j] = (e - a * c - b * d, f - a * d - b * c - b * d)
                if tuple(passed) not in before:
                    further.add(tuple(passed))
        before, level = level, further
    return told
