"""Point 16: one word below another."""

import itertools
import random
import unittest

from helpers import (
    CHOICE, UP_TO_THREE, UP_TO_TWO, Swaps, house_of, reached, sixty_signs, some_words, table_images, table_least,
    table_levels, without_pairs, word_of, words_up_to,
)
from mirrorhouse.least import least, same
from mirrorhouse.rooms import below
from mirrorhouse.words import length


def every_choice(house, word):
    """What all choices of the word's signs, in order, lead the simple rows to."""
    told = set()
    for many in range(len(word) + 1):
        for signs in itertools.combinations(word, many):
            told.add(tuple(table_images(house, signs)))
    return told


def stands_in(one, other):
    """Whether the signs of the one stand in the other in this order."""
    left = iter(other)
    return all(sign in left for sign in one)


def is_below_by_swaps(one, other):
    """One order of things is below another: among the first things of the other as many are great, or more."""
    for many in range(1, len(one) + 1):
        if any(x > y for x, y in zip(sorted(one[:many]), sorted(other[:many]))):
            return False
    return True


def some_signs(word, seed):
    chance = random.Random(seed)
    return tuple(sign for sign in word if chance.randrange(2))


class BelowCase(unittest.TestCase):
    def check(self, house, one, other, expected):
        """The answer is good, and there is one just where it is expected."""
        with self.subTest(house=house, one=one, other=other):
            told = below(house, one, other)
            if not expected:
                self.assertIsNone(told)
                return
            self.assertIs(type(told), list)
            self.assertLessEqual({type(place) for place in told}, {int})
            self.assertEqual(told, sorted(set(told)))
            self.assertEqual(len(told), length(house, one))
            signs = least(house, other)
            self.assertTrue(all(0 <= place < len(signs) for place in told))
            chosen = tuple(signs[place] for place in told)
            self.assertEqual(table_images(house, chosen), table_images(house, one))


class Below(BelowCase):
    def test_written_out(self):
        for text, one, other, expected in (
            ("1", "", "", []), ("1", "", "a", []), ("1", "a", "a", [0]), ("1", "a", "", None), ("1", "aa", "a", []),
            ("2 ab3", "b", "aba", [1]), ("2 ab3", "ab", "aba", [0, 1]), ("2 ab3", "ba", "aba", [1, 2]),
            ("2 ab3", "bab", "aba", [0, 1, 2]), ("2 ab3", "ab", "ba", None), ("2 ab3", "aba", "ab", None),
            ("2 ab3", "a", "b", None), ("2 ab3", "ba", "bab", [1, 2]), ("2 ab3", "abab", "bab", [1, 2]),
            ("2 ab*", "ba", "abab", [1, 2]), ("2 ab*", "bab", "abab", [1, 2, 3]), ("2 ab*", "baba", "abab", None),
            ("3", "ca", "cba", [0, 2]), ("3", "c", "ab", None), ("3", "abc", "cba", [0, 1, 2]),
            ("3 ab3 bc3", "ca", "abc", [0, 2]), ("3 ab3 bc3", "cb", "abc", None),
        ):
            with self.subTest(text=text, one=one, other=other):
                self.assertEqual(below(house_of(text), word_of(one), word_of(other)), expected)

    def test_the_empty_word(self):
        for house in CHOICE:
            for word in some_words(house, 5, 30, 1) + [()]:
                self.assertEqual(below(house, (), word), [])
                self.assertEqual(below(house, word + word[::-1], word), [])
                self.check(house, word, (), length(house, word) == 0)

    def test_a_word_and_itself(self):
        for house in CHOICE:
            for word in some_words(house, 5, 30, 2):
                every_place = list(range(length(house, word)))
                self.assertEqual(below(house, word, word), every_place)
                self.assertEqual(below(house, least(house, word), word), every_place)
                self.assertEqual(below(house, word, least(house, word)), every_place)

    def test_every_choice_of_places_in_houses_of_up_to_two_mirrors(self):
        for house in UP_TO_TWO:
            words = [word for level in table_levels(house, 6) for word in level]
            for other in words:
                choices = every_choice(house, other)
                for one in words + words_up_to(house[0], 3):
                    self.check(house, one, other, tuple(table_images(house, one)) in choices)

    def test_every_choice_of_places_in_houses_of_three_mirrors(self):
        for house in UP_TO_THREE[::12]:
            words = [word for level in table_levels(house, 4) for word in level]
            others = words[::9] + [table_least(house, word) for word in some_words(house, 3, 8, 3)]
            for other in others:
                choices = every_choice(house, other)
                for one in words[::2]:
                    self.check(house, one, other, tuple(table_images(house, one)) in choices)

    def test_every_two_places(self):
        for text in ("2 ab6", "3 ab3 bc3", "3 ab4", "3 ab3 bc4"):
            house = house_of(text)
            words = [word for level in table_levels(house, 100) for word in level]
            for other in words:
                choices = every_choice(house, other)
                for one in words:
                    self.check(house, one, other, tuple(table_images(house, one)) in choices)

    def test_many_mirrors(self):
        for house in CHOICE:
            for other in some_words(house, 4, 9, 4):
                short = table_least(house, other)
                choices = every_choice(house, short)
                for one in some_words(house, 12, 5, 5) + [some_signs(short, seed) for seed in range(5)]:
                    self.check(house, one, other, tuple(table_images(house, one)) in choices)

    def test_whichever_short_word_is_taken(self):
        for house in UP_TO_THREE[::15] + CHOICE[::4]:
            for other in some_words(house, 2, 7, 6):
                short = table_least(house, other)
                for like in sorted(reached(house, short))[:6]:
                    for one in some_words(house, 4, 4, 7) + [some_signs(like, seed) for seed in range(4)]:
                        self.check(house, one, like, tuple(table_images(house, one)) in every_choice(house, short))
                        self.assertEqual(below(house, one, like), below(house, one, other))

    def test_the_same_words_are_below_the_same(self):
        for house in CHOICE:
            one, other, more = some_words(house, 3, 12, 8)
            for like in (least(house, one), more + more[::-1] + one):
                self.assertEqual(below(house, like, other), below(house, one, other))
            for like in (least(house, other), other + more + more[::-1]):
                self.assertEqual(below(house, one, like), below(house, one, other))


class SixtySigns(BelowCase):
    def test_some_signs_of_a_short_word(self):
        for house in CHOICE:
            for other in sixty_signs(house, 3, 9):
                for one in [some_signs(least(house, other), seed) for seed in range(3)]:
                    self.check(house, one, other, True)

    def test_none_below_a_shorter_one_or_one_as_long(self):
        for house in CHOICE:
            for one, other in itertools.combinations(sixty_signs(house, 5, 10), 2):
                if length(house, one) > length(house, other):
                    self.check(house, one, other, False)
                if length(house, one) == length(house, other):
                    self.check(house, one, other, same(house, one, other))

    def test_none_with_a_mirror_that_the_other_has_not(self):
        for house in CHOICE:
            if house[0] > 1:
                for word in sixty_signs((house[0] - 1, []), 3, 11):
                    self.check(house, (house[0] - 1,), word, False)
                    self.check(house, (house[0] - 1,), word + (house[0] - 1,), True)

    def test_swaps(self):
        for mirrors in (1, 2, 3, 4, 5):
            chain = Swaps(mirrors, False)
            words = sixty_signs(chain.house, 8, 12) + some_words(chain.house, 12, 14, 13)
            for one, other in itertools.product(words, repeat=2):
                self.check(chain.house, one, other, is_below_by_swaps(chain.of(one), chain.of(other)))

    def test_every_two_places_of_four_mirrors(self):
        chain = Swaps(4, False)
        for things, word in chain.words.items():
            for others, other in list(chain.words.items())[::5]:
                told = below(chain.house, word, other)
                self.assertEqual(told is not None, is_below_by_swaps(things, others))

    def test_where_no_mirrors_turn_round(self):
        house = (3, [(i, j, 0) for i, j in itertools.combinations(range(3), 2)])
        for other in sixty_signs(house, 10, 14):
            short = without_pairs(other)
            for seed in range(6):
                one = without_pairs(some_signs(short, seed))
                self.check(house, one, other, stands_in(one, short))
            for one in sixty_signs(house, 3, 15) + some_words(house, 10, 8, 16):
                self.check(house, one, other, stands_in(without_pairs(one), short))


if __name__ == "__main__":
    unittest.main()
