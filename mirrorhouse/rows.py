"""Rows of golden numbers, one for each mirror: how mirrors and words lead them, above and below nought."""

from mirrorhouse.golden import minus, plus, sign, times
from mirrorhouse.houses import pull

NOUGHT = (0, 0)
ONE = (1, 0)


def simple(house, i):
    return tuple([ONE if j == i else NOUGHT for j in range(house[0])])


def mirrored(house, i, row):
    less = NOUGHT
    for j, number in enumerate(row):
        less = plus(less, times(pull(house, i, j), number))
    return row[:i] + (plus(row[i], minus(less)),) + row[i + 1:]


def led(house, word, row):
    for mirror in reversed(word):
        row = mirrored(house, mirror, row)
    return row


def images(house, word):
    return [led(house, word, simple(house, i)) for i in range(house[0])]


def less_by(row, factor, other):
    return tuple([plus(x, minus(times(factor, y))) for x, y in zip(row, other)])


def images_with_behind(house, rows, i):
    # The mirror i, put behind a word, leads a simple row first, to that row less some times the simple
    # row of i. So the word's images are enough to tell those of the longer word, without a walk through it.
    return [less_by(row, pull(house, i, j), rows[i]) for j, row in enumerate(rows)]


def is_above(row):
    signs = [sign(x) for x in row]
    return 1 in signs and -1 not in signs


def is_below(row):
    signs = [sign(x) for x in row]
    return -1 in signs and 1 not in signs
