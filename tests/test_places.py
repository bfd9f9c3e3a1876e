"""Point 14: the places of a house and their order."""

import unittest

from helpers import (
    CHOICE, KIND_HOUSES, NEARLY, UP_TO_THREE, Swaps, beside, house_of, kinds_together, renumbered, some_numberings,
    table_levels, table_roots, table_turn, without_pairs, word_of, words_up_to,
)
from mirrorhouse.errors import HouseError, TooMany
from mirrorhouse.kinds import counts, endless, size
from mirrorhouse.least import least
from mirrorhouse.places import places

MOST = 2000
ENDING = [house for house in UP_TO_THREE if endless(house) is None]
NEVER_ENDING = [house for house in UP_TO_THREE if endless(house) is not None]
TOGETHER = [beside([KIND_HOUSES[name] for name in names]) for names in kinds_together(6, sorted(KIND_HOUSES))]
AS_TOLD = [house for house in TOGETHER if size(house) <= MOST]


class PlacesCase(unittest.TestCase):
    def refused(self, house, most):
        with self.subTest(house=house, most=most):
            with self.assertRaises(TooMany) as taken:
                places(house, most)
            self.assertIs(type(taken.exception), TooMany)
            self.assertIsInstance(taken.exception, HouseError)


class Places(PlacesCase):
    def test_written_out(self):
        for text, expected in (
            ("1", "1 a"), ("2", "1 a b ab"), ("2 ab3", "1 a b ab ba aba"), ("2 ab4", "1 a b ab ba aba bab abab"),
            ("2 ab5", "1 a b ab ba aba bab abab baba ababa"),
            ("2 ab6", "1 a b ab ba aba bab abab baba ababa babab ababab"),
            ("3", "1 a b c ab ac bc abc"), ("3 ab3", "1 a b c ab ac ba bc aba abc bac abac"),
            ("3 bc3", "1 a b c ab ac bc cb abc acb bcb abcb"), ("3 ac3", "1 a b c ab ac bc ca abc aca bca abca"),
            ("3 ab3 bc3",
             "1 a b c ab ac ba bc cb aba abc acb bac bcb cba abac abcb acba bacb bcba abacb abcba bacba abacba"),
        ):
            with self.subTest(text=text):
                words = [word_of(word) if word != "1" else () for word in expected.split(" ")]
                self.assertEqual(places(house_of(text), MOST), words)

    def check(self, house):
        told = places(house, MOST)
        self.assertIs(type(told), list)
        self.assertEqual(told, [word for level in table_levels(house, 1000) for word in level])

    def test_every_small_house(self):
        for house in ENDING:
            self.check(house)

    def test_each_kind_in_some_numberings(self):
        for house in KIND_HOUSES.values():
            if size(house) <= 400:
                for numbering in some_numberings(house[0], 4, 1):
                    self.check(renumbered(house, numbering))

    def test_large_ones(self):
        for text in ("5 ab3 bc3 cd3 ce3", "4 ab3 bc4 cd3", "6 ab3 bc3 cd3 de3", "6 ab6 cd6 ef6"):
            self.check(house_of(text))

    def test_several_parts(self):
        for house in AS_TOLD[::5]:
            if size(house) <= 600:
                self.check(renumbered(house, some_numberings(house[0], 1, 2)[0]))

    def test_chains(self):
        for mirrors in range(1, 6):
            for with_four in (False, True):
                chain = Swaps(mirrors, with_four)
                if len(chain.words) <= MOST:
                    expected = sorted(chain.words.values(), key=lambda word: (len(word), word))
                    self.assertEqual(places(chain.house, MOST), expected)

    def test_mirrors_that_all_turn_round_by_two(self):
        for mirrors in range(1, 7):
            words = [tuple(sorted(word)) for word in words_up_to(mirrors, mirrors) if len(set(word)) == len(word)]
            self.assertEqual(places((mirrors, []), MOST), sorted(set(words), key=lambda word: (len(word), word)))

    def test_each_is_a_least_word_and_they_are_all(self):
        for house in AS_TOLD[::5]:
            told = places(house, MOST)
            self.assertEqual(len(set(told)), len(told))
            self.assertEqual(told, sorted(told, key=lambda word: (len(word), word)))
            lengths = [len(word) for word in told]
            self.assertEqual([lengths.count(k) for k in range(lengths[-1] + 1)], counts(house))
            for word in told[::7] + told[-2:]:
                self.assertEqual(least(house, word), word)

    def test_the_longest_one_turns_every_root(self):
        for house in AS_TOLD[::4]:
            self.assertEqual(len(places(house, MOST)[-1]), len(table_roots(house, 200)))

    def test_the_kinds_of_what_is_told(self):
        for house in ENDING[::10]:
            for word in places(house, MOST):
                self.assertIs(type(word), tuple)
                self.assertLessEqual({type(mirror) for mirror in word}, {int})


class TooManyPlaces(PlacesCase):
    def test_just_as_many_and_one_more(self):
        for house in ENDING + AS_TOLD[::6]:
            many = size(house)
            self.assertEqual(len(places(house, many)), many)
            self.refused(house, many - 1)

    def test_every_bound_of_some_houses(self):
        for text in ("1", "2 ab3", "3 ab3 bc3", "4 ab* cd3"):
            house = house_of(text)
            many = None if endless(house) is not None else size(house)
            for most in range(1, 60):
                if many is None or most < many:
                    self.refused(house, most)
                else:
                    self.assertEqual(len(places(house, most)), many)

    def test_the_bounds(self):
        self.refused((1, []), 1)
        self.assertEqual(places((1, []), 2), [(), (0,)])
        for kind in ("a6", "b5", "b6", "d6", "e6", "h4"):
            self.refused(KIND_HOUSES[kind], MOST)
        self.refused(house_of("6 ab3 bc3 cd3 ce3"), MOST)
        self.refused(KIND_HOUSES["d5"], 1919)
        self.assertEqual(len(places(KIND_HOUSES["d5"], 1920)), 1920)

    def test_always_with_a_never_ending_part(self):
        for house in NEVER_ENDING + NEARLY + [house for house in CHOICE if endless(house) is not None]:
            for most in (1, 2, 50, MOST):
                self.refused(house, most)

    def test_the_never_ending_part_stands_anywhere(self):
        for text in ("3 bc*", "4 ab3 cd*", "6 ef*", "6 bd3 df3 bf3", "6 ab3 bc3 de* ef3"):
            self.refused(house_of(text), MOST)


class Helpers(unittest.TestCase):
    def test_the_second_way_to_the_answers(self):
        # What the places are held against, held against what is plain.
        never = house_of("3 ab* ac* bc*")
        levels = table_levels(never, 5)
        self.assertEqual(levels[5], sorted(word for word in words_up_to(3, 5) if len(without_pairs(word)) == 5))
        self.assertEqual(table_turn(never, 2, 0), 0)


if __name__ == "__main__":
    unittest.main()
