"""Point 10: the least word of all that are the same; words that are the same, or parted."""

import itertools
import unittest

from helpers import (
    CHOICE, UP_TO_THREE, UP_TO_TWO, Swaps, alternating, every_word, house_of, reached, sixty_signs, some_words,
    table_images, table_least, without_pairs, word_of, words_up_to,
)
from mirrorhouse.least import least, parted, same
from mirrorhouse.words import is_short, length, shortened

CHAINS = [Swaps(mirrors, with_four) for mirrors in (2, 3, 4, 5) for with_four in (False, True)]
NO_TURNS = [(mirrors, [(i, j, 0) for i, j in itertools.combinations(range(mirrors), 2)]) for mirrors in range(1, 7)]


class LeastWords(unittest.TestCase):
    def test_the_empty_word(self):
        for house in CHOICE:
            self.assertEqual(least(house, ()), ())
            self.assertEqual(least(house, (0, 0)), ())

    def test_written_out(self):
        house = house_of("3 ab3 bc5")
        for text, expected in (
            ("a", "a"), ("ca", "ac"), ("bab", "aba"), ("abab", "ba"), ("cbcbc", "bcbcb"), ("cbab", "acba"),
            ("bcacb", "aba"), ("cac", "a"), ("caca", ""), ("cbcb", "cbcb"), ("bacab", "bcb"), ("cbabc", "acbac"),
        ):
            with self.subTest(text=text):
                self.assertEqual(least(house, word_of(text)), word_of(expected))

    def test_two_mirrors_in_turn(self):
        for m in (2, 3, 4, 5, 6):
            house = (2, [] if m == 2 else [(0, 1, m)])
            self.assertEqual(least(house, alternating(1, 0, m)), alternating(0, 1, m))
            for signs in range(m):
                self.assertEqual(least(house, alternating(1, 0, signs)), alternating(1, 0, signs))
                # Beyond half the way round, the other way is shorter.
                self.assertEqual(least(house, alternating(1, 0, 2 * m - signs)), alternating(0, 1, signs))
                self.assertEqual(least(house, alternating(1, 0, 2 * m + signs)), alternating(1, 0, signs))

    def test_never(self):
        house = house_of("2 ab*")
        for signs in range(61):
            self.assertEqual(least(house, alternating(1, 0, signs)), alternating(1, 0, signs))

    def test_mirrors_that_turn_round_by_two_are_sorted(self):
        house = (6, [])
        self.assertEqual(least(house, (5, 4, 3, 2, 1, 0)), (0, 1, 2, 3, 4, 5))
        self.assertEqual(least(house, (5, 3, 5, 1, 3, 3)), (1, 3))

    def test_against_every_word_of_that_length(self):
        for house in UP_TO_THREE[::5]:
            signs = 5 if house[0] == 3 else 8
            first = {}
            for word in words_up_to(house[0], signs):
                # Fewer signs come first, and of as many they come sign by sign.
                first.setdefault(tuple(table_images(house, word)), word)
            for word in every_word(house[0], signs) + every_word(house[0], signs - 1):
                self.assertEqual(least(house, word), first[tuple(table_images(house, word))])

    def test_against_all_words_reached_by_moves(self):
        for house in UP_TO_TWO:
            for word in words_up_to(house[0], 8):
                self.assertEqual(least(house, word), table_least(house, word))
        for house in UP_TO_THREE:
            for word in every_word(house[0], 4) + some_words(house, 20, 9, 1):
                self.assertEqual(least(house, word), table_least(house, word))
        for house in CHOICE:
            for word in some_words(house, 12, 7, 2):
                self.assertEqual(least(house, word), table_least(house, word))

    def test_all_that_are_the_same_have_one(self):
        for house in UP_TO_THREE[::7]:
            for word in some_words(house, 5, 8, 3):
                expected = least(house, word)
                for other in reached(house, word):
                    self.assertEqual(least(house, other), expected)

    def test_sixty_signs_in_chains(self):
        for chain in CHAINS:
            for word in sixty_signs(chain.house, 10, 4) + some_words(chain.house, 30, 30, 5):
                self.assertEqual(least(chain.house, word), chain.least(word))

    def test_every_place_of_a_chain(self):
        for chain in CHAINS[:6]:
            for word in chain.words.values():
                self.assertEqual(least(chain.house, word), word)
                self.assertEqual(least(chain.house, word[::-1]), chain.least(word[::-1]))

    def test_sixty_signs_where_no_mirrors_turn_round(self):
        for house in NO_TURNS:
            for word in sixty_signs(house, 10, 6):
                self.assertEqual(least(house, word), without_pairs(word))

    def test_short_and_the_same(self):
        for house in CHOICE:
            for word in some_words(house, 6, 59, 7) + sixty_signs(house, 2, 8):
                told = least(house, word)
                self.assertIs(type(told), tuple)
                self.assertEqual(len(told), length(house, word))
                self.assertTrue(is_short(house, told))
                self.assertEqual(table_images(house, told), table_images(house, word))
                self.assertEqual(least(house, told), told)
                self.assertLessEqual(told, shortened(house, word)[0])


class SameAndParted(unittest.TestCase):
    def check(self, house, one, other, mirror):
        with self.subTest(house=house, one=one, other=other):
            self.assertEqual(parted(house, one, other), mirror)
            self.assertEqual(parted(house, other, one), mirror)
            self.assertIs(same(house, one, other), mirror is None)
            self.assertIs(same(house, other, one), mirror is None)

    def expected(self, house, one, other):
        pairs = zip(table_images(house, one), table_images(house, other))
        return next((mirror for mirror, (row, like) in enumerate(pairs) if row != like), None)

    def test_the_same(self):
        for text, one, other in (
            ("1", "", "aa"), ("1", "a", "aaa"), ("2", "ab", "ba"), ("2 ab3", "aba", "bab"), ("2 ab4", "abab", "baba"),
            ("2 ab5", "ababa", "babab"), ("2 ab6", "ababab", "bababa"), ("3 ab3 bc5", "cac", "a"),
            ("2 ab*", "abba", ""), ("2 ab*", "ab", "ab"), ("2 ab3", "abab", "ba"),
        ):
            self.check(house_of(text), word_of(one), word_of(other), None)

    def test_parted(self):
        for text, one, other, mirror in (
            ("1", "", "a", 0), ("2", "", "a", 0), ("2", "", "b", 1), ("2 ab3", "", "b", 0), ("2 ab3", "a", "b", 0),
            ("2 ab*", "ab", "ba", 0), ("2 ab4", "aba", "bab", 0), ("3 ab3", "a", "ac", 2), ("3 bc3", "a", "ac", 1),
            ("6", "abcde", "abcdef", 5), ("6 ab3 bc3 cd3 de3", "f", "", 5), ("6 ab3 ef3", "abf", "ab", 4),
        ):
            self.check(house_of(text), word_of(one), word_of(other), mirror)

    def test_two_words_that_lead_the_first_simple_row_alike(self):
        # c and d turn round by 2 with a and b, so only their own simple rows tell them apart.
        house = house_of("4 ab3")
        self.check(house, word_of("ab"), word_of("abc"), 2)
        self.check(house, word_of("ab"), word_of("abd"), 3)
        self.check(house, word_of("abc"), word_of("abd"), 2)

    def test_every_two_small_words(self):
        for house in UP_TO_THREE[::9]:
            words = words_up_to(house[0], 3)
            for one, other in itertools.combinations(words, 2):
                mirror = self.expected(house, one, other)
                self.assertEqual(parted(house, one, other), mirror)
                self.assertEqual(parted(house, other, one), mirror)
                self.assertIs(same(house, one, other), mirror is None)
                self.assertIs(same(house, other, one), table_least(house, one) == table_least(house, other))

    def test_many_mirrors_and_sixty_signs(self):
        for house in CHOICE:
            words = some_words(house, 3, 20, 9) + sixty_signs(house, 2, 10)
            words += [least(house, word) for word in words] + [word + (0,) for word in words[:2]]
            for one, other in itertools.combinations(words, 2):
                mirror = self.expected(house, one, other)
                self.assertEqual(parted(house, one, other), mirror)
                self.assertIs(same(house, other, one), mirror is None)

    def test_a_word_and_its_least_one(self):
        for house in CHOICE:
            for word in some_words(house, 4, 59, 11) + sixty_signs(house, 2, 12):
                self.check(house, word, least(house, word), None)
                self.check(house, word, word, None)
                self.assertIs(same(house, word, word + (house[0] - 1,)), False)

    def test_sixty_signs_in_chains(self):
        for chain in CHAINS:
            words = sixty_signs(chain.house, 6, 13) + some_words(chain.house, 10, 4, 14)
            for one, other in itertools.combinations(words, 2):
                self.assertIs(same(chain.house, one, other), chain.of(one) == chain.of(other))


if __name__ == "__main__":
    unittest.main()
