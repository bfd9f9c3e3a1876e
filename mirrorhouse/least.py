"""Least words, words that are the same or parted, and the roots that a word turns."""

from mirrorhouse.rows import images, images_with_behind, is_below
from mirrorhouse.words import is_short


def first_below(rows):
    for mirror, row in enumerate(rows):
        if is_below(row):
            return mirror
    return None


def least(house, word):
    signs = []
    # A short word that is the same may begin with a mirror just where the word from behind leads the
    # mirror's simple row below nought; what is left without that sign is asked in the same way.
    rows = images(house, tuple(reversed(word)))
    mirror = first_below(rows)
    while mirror is not None:
        signs.append(mirror)
        rows = images_with_behind(house, rows, mirror)
        mirror = first_below(rows)
    return tuple(signs)


def parted(house, one, other):
    for mirror, rows in enumerate(zip(images(house, one), images(house, other))):
        if rows[0] != rows[1]:
            return mirror
    return None


def same(house, one, other):
    return parted(house, one, other) is None


def turned(house, word):
    short = word if is_short(house, word) else least(house, word)
    roots = []
    rows = images(house, ())
    for mirror in reversed(short):
        roots.append(rows[mirror])
        rows = images_with_behind(house, rows, mirror)
    return roots
