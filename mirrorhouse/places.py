"""The places of a house: its least words, by their lengths and then sign by sign."""

from mirrorhouse.errors import TooMany
from mirrorhouse.kinds import endless, size
from mirrorhouse.rows import images, images_with_behind, is_above


def has_more(house, most):
    return endless(house) is not None or size(house) > most


# The words of one sign more, in order. The words that are handed in, each with its images, are all the least
# words of their length, in order: a least word without its last sign is one of them.
def longer_places(house, reached):
    seen = {}
    longer = []
    for word, rows in reached:
        for mirror in range(house[0]):
            if is_above(rows[mirror]):
                rows_behind = images_with_behind(house, rows, mirror)
                # The first word that leads so is the least one, since the words come in order.
                if tuple(rows_behind) not in seen:
                    seen[tuple(rows_behind)] = True
                    longer.append((word + (mirror,), rows_behind))
    return longer


def places(house, most):
    if has_more(house, most):
        raise TooMany("the house has more places")
    told = []
    reached = [((), images(house, ()))]
    while len(reached) > 0:
        told.extend([word for word, rows in reached])
        reached = longer_places(house, reached)
    return told
