"""Rooms, which part a word into an outer and an inner one, and the order by words."""

from mirrorhouse.least import least
from mirrorhouse.rows import images, images_with_behind, is_below


# Mirrors of the part that, put behind one by one, make the word shorter each time, until none does.
def shorteners(house, word, part):
    signs = []
    rows = images(house, word)
    falling = [mirror for mirror in part if is_below(rows[mirror])]
    while len(falling) > 0:
        signs.append(falling[0])
        rows = images_with_behind(house, rows, falling[0])
        falling = [mirror for mirror in part if is_below(rows[mirror])]
    return tuple(signs)


def split(house, word, part):
    signs = shorteners(house, word, part)
    # The outer word has these signs behind the word; the same signs from behind lead back to it.
    return (least(house, word + signs), least(house, tuple(reversed(signs))))


def below(house, one, other):
    signs = least(house, other)
    rows = images(house, one)
    places = []
    # From behind: where the one ends with the other's last sign, it is below just where it is so with both
    # without that sign; else just where it is below the other without it.
    for place in range(len(signs) - 1, -1, -1):
        if is_below(rows[signs[place]]):
            rows = images_with_behind(house, rows, signs[place])
            places.append(place)
    if rows != images(house, ()):
        return None
    return sorted(places)
