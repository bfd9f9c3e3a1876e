"""Papers: lists of moves that change a word, walked by the house's table alone."""

from mirrorhouse.houses import NEVER, turn_of
from mirrorhouse.least import least
from mirrorhouse.words import is_short

DROP = "drop"
TURN = "turn"


def in_turn(i, j, signs):
    return tuple([i if place % 2 == 0 else j for place in range(signs)])


def after_drop(word, place):
    if not 0 <= place < len(word) - 1:
        return None
    if word[place] != word[place + 1]:
        return None
    return word[:place] + word[place + 2:]


def is_mirror(house, i):
    return 0 <= i < house[0]


def after_turn(house, word, place, i, j):
    if not 0 <= place < len(word):
        return None
    if not is_mirror(house, i) or not is_mirror(house, j) or i == j:
        return None
    turn = turn_of(house, i, j)
    end = place + turn
    if turn == NEVER or word[place:end] != in_turn(i, j, turn):
        return None
    return word[:place] + in_turn(j, i, turn) + word[end:]


def after_move(house, word, move):
    if move[0] == DROP:
        return after_drop(word, move[1])
    return after_turn(house, word, move[1], move[2], move[3])


def walked(house, word, paper):
    for move in paper:
        word = after_move(house, word, move)
        if word is None:
            return None
    return word


# A word on its way, and the moves that were done: both are kept together, since each move needs the word as it is.
class Walk:
    def __init__(self, house, word):
        self.house = house
        self.word = word
        self.moves = []

    def do(self, move):
        self.word = after_move(self.house, self.word, move)
        self.moves.append(move)

    def bring(self, place, mirror):
        # Asked only where the rest from the place on is short, and some short word that is the same begins
        # with the mirror.
        first = self.word[place]
        if first == mirror:
            return
        # So some begin with either of both mirrors; then these turn round, and one begins with both in turn,
        # as many signs as that. The signs behind the first are brought one by one, each in a shorter rest.
        turn = turn_of(self.house, first, mirror)
        signs = in_turn(first, mirror, turn)
        for k in range(1, turn):
            self.bring(place + k, signs[k])
        self.do((TURN, place, first, mirror))

    def shorten(self):
        # From behind, so that the rest behind the place is short and one kind of bringing is enough.
        for place in range(len(self.word) - 1, -1, -1):
            if not is_short(self.house, self.word[place:]):
                self.bring(place + 1, self.word[place])
                self.do((DROP, place))


def to_least(house, word):
    walk = Walk(house, word)
    walk.shorten()
    for place, mirror in enumerate(least(house, word)):
        walk.bring(place, mirror)
    return walk.moves
