"""Point 15: outer and inner words."""

import itertools
import unittest

from helpers import (
    CHOICE, KIND_HOUSES, UP_TO_THREE, UP_TO_TWO, Swaps, house_of, sixty_signs, some_words, table_images, table_least,
    table_levels, without_pairs, word_of, words_up_to,
)
from mirrorhouse.least import least
from mirrorhouse.rooms import split
from mirrorhouse.words import length

CHAINS = [Swaps(mirrors, with_four) for mirrors in (2, 3, 4, 5) for with_four in (False, True)]


def every_part(mirrors):
    return [list(part) for many in range(mirrors + 1) for part in itertools.combinations(range(mirrors), many)]


def blocks_of(places, part):
    """Places that are joined by mirrors of the part: the mirror i joins the places i and i + 1."""
    blocks = [[0]]
    for place in range(1, places):
        if place - 1 in part:
            blocks[-1].append(place)
        else:
            blocks.append([place])
    return blocks


def sorted_in_blocks(chain, things, part):
    """The outer word of a chain as what it does: within each block the things stand in their first order."""
    many = len(things)
    last_changes = chain.with_four and chain.house[0] - 1 in part

    def rank(thing):
        # With signs, a thing that was last is nearest to nought, and one with its sign changed comes behind all.
        return thing if thing > 0 else 2 * many + 1 + thing

    told = []
    for block in blocks_of(many, part):
        held = [things[place] for place in block]
        if last_changes and block[-1] == many - 1:
            held = [abs(thing) for thing in held]
        told += sorted(held, key=rank)
    return tuple(told)


class Split(unittest.TestCase):
    def check(self, house, word, part):
        with self.subTest(house=house, word=word, part=part):
            told = split(house, word, part)
            self.assertEqual([type(told), len(told), type(told[0]), type(told[1])], [tuple, 2, tuple, tuple])
            outer, inner = told
            self.assertEqual(table_images(house, outer + inner), table_images(house, word))
            self.assertEqual(len(outer) + len(inner), length(house, word))
            self.assertEqual([least(house, outer), least(house, inner)], [outer, inner])
            self.assertLessEqual(set(inner), set(part))
            for i in part:
                self.assertEqual(length(house, outer + (i,)), len(outer) + 1)

    def test_written_out(self):
        for text, word, part, outer, inner in (
            ("2 ab3", "aba", "a", "ab", "a"), ("2 ab3", "aba", "b", "ba", "b"), ("2 ab3", "aba", "ab", "", "aba"),
            ("2 ab3", "aba", "", "aba", ""), ("2 ab3", "ab", "a", "ab", ""), ("2 ab3", "ba", "a", "b", "a"),
            ("2 ab3", "bab", "b", "ba", "b"), ("2 ab3", "", "ab", "", ""), ("2 ab3", "abab", "a", "b", "a"),
            ("3 ab3 bc3", "cab", "ac", "acb", ""), ("3 ab3 bc3", "bca", "ac", "b", "ac"),
            ("3 ab3 bc3", "abacba", "bc", "cba", "bcb"), ("3 ab3 bc3", "abacba", "ab", "abc", "aba"),
            ("2 ab*", "ababab", "b", "ababa", "b"), ("2 ab*", "ababab", "a", "ababab", ""),
            ("3", "cba", "ca", "b", "ac"), ("1", "a", "a", "", "a"), ("1", "a", "", "a", ""), ("1", "", "a", "", ""),
            ("3 ab4 bc3", "babac", "ab", "babc", "a"), ("3 ab4 bc3", "cbaba", "ab", "c", "abab"),
        ):
            with self.subTest(text=text, word=word, part=part):
                told = split(house_of(text), word_of(word), list(word_of(part)))
                self.assertEqual(told, (word_of(outer), word_of(inner)))

    def test_no_mirror_and_all_mirrors(self):
        for house in CHOICE:
            for word in some_words(house, 4, 30, 1) + [()]:
                self.assertEqual(split(house, word, []), (least(house, word), ()))
                self.assertEqual(split(house, word, list(range(house[0]))), ((), least(house, word)))

    def test_each_part_of_the_mirrors(self):
        for house in CHOICE:
            for part in every_part(house[0]):
                for word in some_words(house, 2, 14, len(part)):
                    self.check(house, word, part)

    def test_every_small_house(self):
        for house in UP_TO_TWO:
            for part in every_part(house[0]):
                for word in words_up_to(house[0], 6):
                    self.check(house, word, part)
        for house in UP_TO_THREE[::4]:
            for part in every_part(house[0]):
                for word in some_words(house, 4, 12, 2):
                    self.check(house, word, part)

    def test_in_any_order_of_the_list(self):
        for house in CHOICE:
            for part in ([0], [house[0] - 1], list(range(house[0]))[:4], list(range(house[0]))[1:5]):
                for word in some_words(house, 2, 20, 3):
                    expected = split(house, word, sorted(part))
                    for other in itertools.permutations(part):
                        self.assertEqual(split(house, word, list(other)), expected)

    def test_just_one_pair(self):
        # Of all pairs of places just one is as the document says, and it's the one that is told.
        for text in ("2 ab3", "2 ab5", "3 ab3 bc3", "3 ab4", "3 ab3 bc4", "3 ac3 bc3"):
            house = house_of(text)
            words = [word for level in table_levels(house, 100) for word in level]
            for part in every_part(house[0]):
                inner_words = [word for word in words if set(word) <= set(part)]
                outer_words = [
                    word for word in words
                    if all(len(table_least(house, word + (i,))) == len(word) + 1 for i in part)
                ]
                pairs = {}
                for outer, inner in itertools.product(outer_words, inner_words):
                    pairs.setdefault(tuple(table_images(house, outer + inner)), []).append((outer, inner))
                self.assertEqual(len(pairs), len(words))
                for word in words:
                    self.assertEqual([split(house, word, part)], pairs[tuple(table_images(house, word))])

    def test_short_and_other_words_that_are_the_same(self):
        for house in CHOICE:
            for word in some_words(house, 3, 20, 4):
                part = list(range(0, house[0], 2))
                expected = split(house, least(house, word), part)
                self.assertEqual(split(house, word, part), expected)
                self.assertEqual(split(house, (0, 0) + word, part), expected)
                self.assertEqual(split(house, word + word[::-1] + word, part), expected)

    def test_sixty_signs(self):
        for house in CHOICE:
            for part in ([0], list(range(house[0]))[::2], list(range(house[0]))[1:][::-1]):
                for word in sixty_signs(house, 2, len(part)):
                    self.check(house, word, part)

    def test_sixty_signs_in_chains(self):
        for chain in CHAINS:
            for part in every_part(chain.house[0]):
                for word in sixty_signs(chain.house, 4, len(part)) + some_words(chain.house, 4, 12, 5):
                    outer, inner = split(chain.house, word, part)
                    self.assertEqual(outer, chain.words[sorted_in_blocks(chain, chain.of(word), part)])
                    self.assertEqual(inner, chain.least(outer[::-1] + word))

    def test_sixty_signs_where_no_mirrors_turn_round(self):
        house = (4, [(i, j, 0) for i, j in itertools.combinations(range(4), 2)])
        for part in every_part(4):
            for word in sixty_signs(house, 5, 6):
                kept = without_pairs(word + (3, 2, 0, 1, 2, 0))
                end = len(kept)
                while end > 0 and kept[end - 1] in part:
                    end -= 1
                self.assertEqual(split(house, kept, part), (kept[:end], kept[end:]))

    def test_each_place_of_a_kind(self):
        for kind in ("a3", "b3", "h3", "a4", "d4"):
            house = KIND_HOUSES[kind]
            words = [word for level in table_levels(house, 100) for word in level]
            for part in every_part(house[0])[1::2]:
                told = [split(house, word, part) for word in words]
                outer = {pair[0] for pair in told}
                inner = {pair[1] for pair in told}
                self.assertEqual(len(set(told)), len(words))
                self.assertEqual(len(outer) * len(inner), len(words))
                self.assertEqual(inner, {word for word in words if set(word) <= set(part)})


if __name__ == "__main__":
    unittest.main()
