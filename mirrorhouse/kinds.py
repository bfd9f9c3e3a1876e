"""The parts of a house and their kinds; its degrees, size and counts, or its first never ending part."""

from mirrorhouse.errors import Endless
from mirrorhouse.houses import NOT_TOLD, turn_of

NO_KIND = "-"
COMMON_TURN = 3

# The kinds of chains that come with few mirrors alone, by the turns from one end to the other.
RARE_CHAINS = {(3, 4, 3): "f4", (3, 5): "h3", (3, 3, 5): "h4", (5,): "i5", (6,): "i6"}

RARE_DEGREES = {
    "e6": (2, 5, 6, 8, 9, 12),
    "f4": (2, 6, 8, 12),
    "h3": (2, 6, 10),
    "h4": (2, 12, 20, 30),
    "i5": (2, 5),
    "i6": (2, 6),
}


def neighbours(house, mirror, others):
    return [other for other in others if other != mirror and turn_of(house, mirror, other) != NOT_TOLD]


def without(mirrors, mirror):
    return [other for other in mirrors if other != mirror]


def part_of(house, mirror):
    part = [mirror]
    left = without(list(range(house[0])), mirror)
    place = 0
    while place < len(part):
        near = neighbours(house, part[place], left)
        part.extend(near)
        left = [other for other in left if other not in near]
        place += 1
    return sorted(part)


def parts(house):
    reached = [part_of(house, mirror) for mirror in range(house[0])]
    # A part is reached from each of its mirrors; the least one tells it.
    return [part for mirror, part in enumerate(reached) if part[0] == mirror]


def chain_from(house, mirrors, first):
    order = [first]
    left = without(mirrors, first)
    while len(left) > 0:
        near = neighbours(house, order[-1], left)
        # One of several would be a neighbour that doesn't stand beside it.
        if len(near) != 1:
            return None
        order.append(near[0])
        left = without(left, near[0])
    return order


# Every chain, so also the one from the other end: the kinds ask for something at the last mirrors.
def chains(house, mirrors):
    orders = [chain_from(house, mirrors, first) for first in mirrors]
    return [order for order in orders if order is not None]


def turns_along(house, order):
    return [turn_of(house, i, j) for i, j in zip(order, order[1:])]


def kind_of_chain(turns):
    mirrors = len(turns) + 1
    if turns == [COMMON_TURN] * (mirrors - 1):
        return f"a{mirrors}"
    if turns == [COMMON_TURN] * (mirrors - 2) + [4]:
        return f"b{mirrors}"
    return RARE_CHAINS.get(tuple(turns), NO_KIND)


# One more mirror stands beside the mirror in the chain, and beside no other. Where that is the chain's second
# one, it has three neighbours, and two of them, the first one and the one more, have no other neighbour.
def kind_with_one_beside(order, mirror):
    mirrors = len(order) + 1
    if mirrors >= 4 and order[1] == mirror:
        return f"d{mirrors}"
    if mirrors == 6 and order[2] == mirror:
        return "e6"
    return NO_KIND


def kinds_by_chains(house, part):
    return [kind_of_chain(turns_along(house, order)) for order in chains(house, part)]


def all_by_three(house, part):
    return all([m == COMMON_TURN for i, j, m in house[1] if i in part])


# Each mirror with one neighbour alone may be the one that stands beside a chain.
def kinds_by_ends(house, part):
    told = []
    if not all_by_three(house, part):
        return told
    for end in part:
        near = neighbours(house, end, part)
        if len(near) == 1:
            orders = chains(house, without(part, end))
            told.extend([kind_with_one_beside(order, near[0]) for order in orders])
    return told


def kind_of(house, part):
    for kind in kinds_by_chains(house, part) + kinds_by_ends(house, part):
        if kind != NO_KIND:
            return kind
    return NO_KIND


def kinds(house):
    return [(part, kind_of(house, part)) for part in parts(house)]


def endless(house):
    for part, kind in kinds(house):
        if kind == NO_KIND:
            return tuple(part)
    return None


def degrees_of_kind(kind, mirrors):
    if kind in RARE_DEGREES:
        return list(RARE_DEGREES[kind])
    if kind.startswith("a"):
        return list(range(2, mirrors + 2))
    if kind.startswith("b"):
        return list(range(2, 2 * mirrors + 1, 2))
    return list(range(2, 2 * mirrors, 2)) + [mirrors]


def degrees(house):
    word = endless(house)
    if word is not None:
        raise Endless(word)
    told = []
    for part, kind in kinds(house):
        told.extend(degrees_of_kind(kind, len(part)))
    return sorted(told)


def size(house):
    product = 1
    for degree in degrees(house):
        product *= degree
    return product


def times_ones(numbers, ones):
    # The product has at each place the sum of as many numbers as there are ones, up to that place.
    places = len(numbers) + ones - 1
    return [sum(numbers[max(0, place - ones + 1):place + 1]) for place in range(places)]


def counts(house):
    numbers = [1]
    for degree in degrees(house):
        numbers = times_ones(numbers, degree)
    return numbers
