"""Short words: which words are short, how others are shortened, and lengths."""

from mirrorhouse.rows import images, images_with_behind, is_above, mirrored, simple


# For each sign, whether the signs ahead of it become a longer word where it is put behind them.
def which_lengthen(house, word):
    told = []
    rows = images(house, ())
    for mirror in word:
        told.append(is_above(rows[mirror]))
        rows = images_with_behind(house, rows, mirror)
    return told


def is_short(house, word):
    return all(which_lengthen(house, word))


def length(house, word):
    return sum([1 if longer else -1 for longer in which_lengthen(house, word)])


# The place of the sign that falls out of a short word where the mirror, put behind, makes it shorter.
def place_that_falls(house, short, mirror):
    place = len(short) - 1
    row = simple(house, mirror)
    # The word leads this row below nought, and a mirror leads no root from above to below but its own
    # simple row: so the walk meets that row at some place, and ends there.
    while row != simple(house, short[place]):
        row = mirrored(house, short[place], row)
        place -= 1
    return place


def shortened(house, word):
    kept = []
    fallen = []
    # A pair that falls out leaves the same word behind, so what the later signs do is told once for all.
    for mirror, longer in zip(word, which_lengthen(house, word)):
        if longer:
            kept.append(mirror)
        else:
            place = place_that_falls(house, kept, mirror)
            fallen.append((place, len(kept)))
            kept.pop(place)
    return (tuple(kept), fallen)
