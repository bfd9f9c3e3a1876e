"""Point 12: neighbours, parts, chains and kinds."""

import itertools
import random
import unittest

from helpers import (
    CHOICE, KIND_HOUSES, NEARLY, UP_TO_THREE, UP_TO_TWO, beside, chain_of, chain_with_one_beside, every_house,
    every_numbering, house_of, house_with, kinds_together, renumbered, some_numberings, star_of, table_roots,
    table_turn,
)
from mirrorhouse.kinds import kinds

# No house of up to six mirrors with one part that ends has more roots above nought: this is h4.
MOST_ROOTS = 60


def told_neighbours(house, i, part):
    return [j for j in part if j != i and table_turn(house, i, j) != 2]


def told_chains(house, part):
    """The orders of point 12, found by trying all."""
    chains = []
    for order in itertools.permutations(part):
        by_two = itertools.combinations(range(len(order)), 2)
        if all((table_turn(house, order[k], order[n]) != 2) == (n == k + 1) for k, n in by_two):
            chains.append(order)
    return chains


def told_kind_of_chain(turns):
    n = len(turns) + 1
    if set(turns) <= {3}:
        return f"a{n}"
    if n >= 2 and turns[-1] == 4 and set(turns[:-1]) <= {3}:
        return f"b{n}"
    if turns == [3, 4, 3]:
        return "f4"
    if n in (3, 4) and turns[-1] == 5 and set(turns[:-1]) == {3}:
        return f"h{n}"
    if n == 2 and turns[0] in (5, 6):
        return f"i{turns[0]}"
    return None


def told_branched_kind(house, part):
    n = len(part)
    if any(table_turn(house, i, j) not in (2, 3) for i, j in itertools.combinations(part, 2)):
        return None
    for i in part:
        near = told_neighbours(house, i, part)
        alone = [j for j in near if told_neighbours(house, j, part) == [i]]
        if len(near) != 3:
            continue
        rests = {j: told_chains(house, [k for k in part if k != j]) for j in alone}
        if n >= 4 and len(alone) >= 2 and any(rests.values()):
            return f"d{n}"
        if n == 6 and any(chain[2] == i for chains in rests.values() for chain in chains):
            return "e6"
    return None


def told_kind(house, part):
    """The kind by the words of point 12, without thought of how soon it comes."""
    for chain in told_chains(house, part):
        kind = told_kind_of_chain([table_turn(house, i, j) for i, j in zip(chain, chain[1:])])
        if kind:
            return kind
    return told_branched_kind(house, part) or "-"


def told_parts(house):
    parts = {i: {i} for i in range(house[0])}
    for i, j, _ in house[1]:
        both = parts[i] | parts[j]
        for k in both:
            parts[k] = both
    return sorted(map(list, {tuple(sorted(part)) for part in parts.values()}))


def told_kinds(house):
    return [(part, told_kind(house, part)) for part in told_parts(house)]


def part_as_house(house, part):
    return (len(part), [(part.index(i), part.index(j), m) for i, j, m in house[1] if i in part])


def some_houses(mirrors, how_many, told_of_ten, turns, seed):
    chance = random.Random(seed)
    pairs = mirrors * (mirrors - 1) // 2
    houses = []
    for _ in range(how_many):
        told = [chance.choice(turns) if chance.randrange(10) < told_of_ten else 2 for _ in range(pairs)]
        houses.append(house_with(mirrors, told))
    return houses


class EachKind(unittest.TestCase):
    def test_written_out(self):
        for text, expected in (
            ("1", "a1"), ("2 ab3", "a2"), ("3 ab3 bc3", "a3"), ("3 ab3 ac3", "a3"), ("4 ab3 bc3 cd3", "a4"),
            ("5 ab3 bc3 cd3 de3", "a5"), ("6 ab3 bc3 cd3 de3 ef3", "a6"), ("2 ab4", "b2"), ("3 ab3 bc4", "b3"),
            ("3 ab4 bc3", "b3"), ("3 ab4 ac3", "b3"), ("4 ab3 bc3 cd4", "b4"), ("4 ab4 bc3 cd3", "b4"),
            ("5 ab3 bc3 cd3 de4", "b5"), ("6 ab4 bc3 cd3 de3 ef3", "b6"), ("4 ab3 bc4 cd3", "f4"),
            ("4 ac3 cd4 bd3", "f4"), ("3 ab3 bc5", "h3"), ("3 ab5 bc3", "h3"), ("4 ab3 bc3 cd5", "h4"),
            ("4 ab5 bc3 cd3", "h4"), ("2 ab5", "i5"), ("2 ab6", "i6"), ("4 ab3 ac3 ad3", "d4"), ("4 ad3 bd3 cd3", "d4"),
            ("5 ab3 bc3 cd3 ce3", "d5"), ("5 ac3 bc3 cd3 de3", "d5"), ("6 ab3 bc3 cd3 de3 df3", "d6"),
            ("6 ab3 bc3 cd3 de3 cf3", "e6"), ("6 ab3 ac3 ad3 ce3 df3", "e6"), ("2 ab*", "-"), ("3 ab3 bc3 ac3", "-"),
        ):
            with self.subTest(text=text):
                house = house_of(text)
                self.assertEqual(kinds(house), [(list(range(house[0])), expected)])

    def test_in_every_numbering(self):
        for kind, house in KIND_HOUSES.items():
            for numbering in every_numbering(house[0]):
                self.assertEqual(kinds(renumbered(house, numbering)), [(list(range(house[0])), kind)])

    def test_with_the_turns_in_another_order(self):
        for kind, house in KIND_HOUSES.items():
            for turns in list(itertools.permutations(house[1]))[::7]:
                self.assertEqual(kinds((house[0], list(turns))), [(list(range(house[0])), kind)])

    def test_what_is_told_is_of_the_right_kinds(self):
        for house in list(KIND_HOUSES.values()) + NEARLY + [(6, [])]:
            told = kinds(house)
            self.assertIs(type(told), list)
            for pair in told:
                self.assertEqual([type(pair), type(pair[0]), type(pair[1])], [tuple, list, str])
                self.assertEqual({type(mirror) for mirror in pair[0]}, {int})


class Parts(unittest.TestCase):
    def test_mirrors_that_all_turn_round_by_two(self):
        for mirrors in range(1, 7):
            self.assertEqual(kinds((mirrors, [])), [([i], "a1") for i in range(mirrors)])

    def test_written_out(self):
        for text, expected in (
            ("3 ab3", [([0, 1], "a2"), ([2], "a1")]),
            ("3 ac4", [([0, 2], "b2"), ([1], "a1")]),
            ("3 bc5", [([0], "a1"), ([1, 2], "i5")]),
            ("4 ad* bc6", [([0, 3], "-"), ([1, 2], "i6")]),
            ("6 af3 be4 cd*", [([0, 5], "a2"), ([1, 4], "b2"), ([2, 3], "-")]),
            ("6 bf3 df5 ac3 ae3", [([0, 2, 4], "a3"), ([1, 3, 5], "h3")]),
            ("6 ce3 ef3 cf3", [([0], "a1"), ([1], "a1"), ([2, 4, 5], "-"), ([3], "a1")]),
            ("6 bf3 cf3 df3", [([0], "a1"), ([1, 2, 3, 5], "d4"), ([4], "a1")]),
        ):
            with self.subTest(text=text):
                self.assertEqual(kinds(house_of(text)), expected)

    def check_together(self, parts, numbering):
        """Parts with their kinds, put beside one another and renumbered, are told by their least mirrors."""
        house = renumbered(beside([part for part, _ in parts]), numbering)
        expected, first = [], 0
        for part, kind in parts:
            expected.append((sorted(numbering[first:first + part[0]]), kind))
            first += part[0]
        self.assertEqual(kinds(house), sorted(expected))

    def test_every_kind_with_others_beside_it(self):
        for names in kinds_together(6, sorted(KIND_HOUSES)):
            parts = [(KIND_HOUSES[name], name) for name in names]
            mirrors = sum(part[0] for part, _ in parts)
            for numbering in some_numberings(mirrors, 8, len(names)) + [tuple(range(mirrors))]:
                self.check_together(parts, numbering)

    def test_a_small_house_with_others_beside_it_in_every_numbering(self):
        for names in (("a1", "a2"), ("a1", "b3"), ("a2", "b2"), ("i5", "i6"), ("h3", "a2"), ("d4", "a1"), ("f4", "a1"),
                      ("a1", "h4"), ("a3", "b2"), ("a1", "a1", "a3")):
            parts = [(KIND_HOUSES[name], name) for name in names]
            for numbering in every_numbering(sum(part[0] for part, _ in parts)):
                self.check_together(parts, numbering)

    def test_never_ending_ones_with_others_beside_them(self):
        for house in NEARLY:
            for name in sorted(KIND_HOUSES):
                mirrors = house[0] + KIND_HOUSES[name][0]
                if mirrors <= 6:
                    parts = [(house, "-"), (KIND_HOUSES[name], name)]
                    for numbering in some_numberings(mirrors, 4, 1):
                        self.check_together(parts, numbering)

    def test_two_never_ending_ones(self):
        small = [house for house in NEARLY if house[0] <= 3]
        for one, other in itertools.product(small, repeat=2):
            for numbering in some_numberings(one[0] + other[0], 3, 2):
                self.check_together([(one, "-"), (other, "-")], numbering)


class NearlyOfAKind(unittest.TestCase):
    def test_in_many_numberings(self):
        for house in NEARLY:
            whole = list(range(house[0]))
            for numbering in every_numbering(house[0])[::5] + [tuple(whole), tuple(whole[::-1])]:
                self.assertEqual(kinds(renumbered(house, numbering)), [(whole, "-")])

    def test_each_kind_with_one_turn_changed(self):
        for kind, house in KIND_HOUSES.items():
            for place, (i, j, m) in enumerate(house[1]):
                for other in (0, 3, 4, 5, 6):
                    turns = list(house[1])
                    turns[place] = (i, j, other)
                    self.assertEqual(kinds((house[0], turns)), told_kinds((house[0], turns)), (kind, turns))

    def test_each_kind_with_one_turn_more(self):
        for kind, house in KIND_HOUSES.items():
            for i, j in itertools.combinations(range(house[0]), 2):
                if table_turn(house, i, j) == 2:
                    for m in (0, 3, 4):
                        ringed = (house[0], house[1] + [(i, j, m)])
                        self.assertEqual(kinds(ringed), [(list(range(house[0])), "-")], kind)

    def test_each_kind_with_one_mirror_more(self):
        for house in KIND_HOUSES.values():
            n = house[0]
            if n < 6:
                for i in range(n):
                    for m in (0, 3, 4, 5, 6):
                        longer = (n + 1, house[1] + [(i, n, m)])
                        self.assertEqual(kinds(longer), told_kinds(longer))

    def test_three_neighbours_with_longer_arms(self):
        # These have seven mirrors, one more than a house may have: none of the kinds is theirs.
        three_arms_of_two = (7, [(0, 1, 3), (1, 2, 3), (2, 3, 3), (3, 4, 3), (2, 5, 3), (5, 6, 3)])
        for house in (chain_with_one_beside(7, 2), three_arms_of_two):
            self.assertEqual(kinds(house), [(list(range(7)), "-")])

    def test_longer_arms_with_a_turn_that_is_not_by_three(self):
        for place, m in itertools.product(range(5), (0, 4, 5, 6)):
            for kind in ("d6", "e6"):
                turns = list(KIND_HOUSES[kind][1])
                turns[place] = (turns[place][0], turns[place][1], m)
                self.assertEqual(kinds((6, turns)), [(list(range(6)), "-")])


class EveryHouse(unittest.TestCase):
    def test_up_to_three_mirrors(self):
        for house in UP_TO_THREE:
            self.assertEqual(kinds(house), told_kinds(house))

    def test_four_mirrors(self):
        for house in every_house(4)[::5]:
            self.assertEqual(kinds(house), told_kinds(house))

    def test_all_by_three(self):
        # Every way in which up to five mirrors can be neighbours, and many of six.
        for mirrors in (4, 5):
            pairs = mirrors * (mirrors - 1) // 2
            for turns in itertools.product((2, 3), repeat=pairs):
                house = house_with(mirrors, turns)
                self.assertEqual(kinds(house), told_kinds(house))

    def test_many_mirrors(self):
        for mirrors, told_of_ten in ((5, 3), (5, 4), (6, 2), (6, 3)):
            for turns in ((3,), (3, 3, 3, 3, 4), (3, 3, 3, 4, 5, 6, 0)):
                for house in some_houses(mirrors, 60, told_of_ten, turns, mirrors + told_of_ten):
                    self.assertEqual(kinds(house), told_kinds(house))

    def test_the_choice(self):
        for house in CHOICE:
            self.assertEqual(kinds(house), told_kinds(house))


class NeverEnding(unittest.TestCase):
    def check(self, house):
        for part, kind in kinds(house):
            roots = table_roots(part_as_house(house, part), MOST_ROOTS)
            self.assertEqual(kind == "-", roots is None, (house, part))

    def test_just_those_parts_with_ever_more_roots(self):
        for house in UP_TO_TWO + UP_TO_THREE[::3] + CHOICE + NEARLY + list(KIND_HOUSES.values()):
            self.check(house)

    def test_many_mirrors(self):
        for mirrors, told_of_ten in ((4, 5), (5, 4), (6, 3)):
            for turns in ((3,), (3, 3, 3, 3, 4), (3, 3, 3, 4, 5, 6)):
                for house in some_houses(mirrors, 40, told_of_ten, turns, mirrors):
                    self.check(house)

    def test_chains_and_stars(self):
        for signs in range(1, 4):
            for turns in itertools.product((3, 4, 5, 6, 0), repeat=signs):
                self.check(chain_of(*turns))
        for turns in itertools.product((3, 4, 5), repeat=3):
            self.check(star_of(*turns))


if __name__ == "__main__":
    unittest.main()
