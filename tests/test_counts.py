"""Point 13: degrees, sizes, counts, and the word of the first never ending part."""

import itertools
import unittest

from helpers import (
    CHOICE, KIND_DEGREES, KIND_HOUSES, NEARLY, UP_TO_THREE, Swaps, beside, house_of, kinds_together, renumbered,
    some_numberings, steps_from_a_corner, table_images, table_levels, table_roots, words_up_to,
)
from mirrorhouse.errors import Endless, HouseError
from mirrorhouse.kinds import counts, degrees, endless, kinds, size
from mirrorhouse.words import is_short

SIZES = {
    "a1": 2, "a2": 6, "a3": 24, "a4": 120, "a5": 720, "a6": 5040, "b2": 8, "b3": 48, "b4": 384, "b5": 3840, "b6": 46080,
    "d4": 192, "d5": 1920, "d6": 23040, "e6": 51840, "f4": 1152, "h3": 120, "h4": 14400, "i5": 10, "i6": 12,
}
TOGETHER = kinds_together(6, sorted(KIND_HOUSES))
ENDING = [house for house in UP_TO_THREE if endless(house) is None]
NEVER_ENDING = [house for house in UP_TO_THREE if endless(house) is not None]


def house_together(names):
    return beside([KIND_HOUSES[name] for name in names])


class Degrees(unittest.TestCase):
    def test_of_each_kind(self):
        for kind, house in KIND_HOUSES.items():
            for numbering in some_numberings(house[0], 5, 1):
                self.assertEqual(degrees(renumbered(house, numbering)), KIND_DEGREES[kind], kind)

    def test_of_several_parts_in_ascending_order(self):
        for names in TOGETHER:
            house = house_together(names)
            expected = sorted(itertools.chain.from_iterable(KIND_DEGREES[name] for name in names))
            for numbering in some_numberings(house[0], 2, 2):
                self.assertEqual(degrees(renumbered(house, numbering)), expected, names)

    def test_written_out(self):
        self.assertEqual(degrees(house_of("1")), [2])
        self.assertEqual(degrees(house_of("6")), [2, 2, 2, 2, 2, 2])
        self.assertEqual(degrees(house_of("5 ab5 cd6")), [2, 2, 2, 5, 6])
        self.assertEqual(degrees(house_of("6 ab3 bc5 de3 ef4")), [2, 2, 4, 6, 6, 10])
        self.assertEqual(degrees(house_of("4 ab3 bc3 bd3")), [2, 4, 4, 6])

    def test_as_many_as_mirrors_and_together_the_roots_and_the_mirrors(self):
        for house in ENDING + list(KIND_HOUSES.values()):
            told = degrees(house)
            self.assertEqual(len(told), house[0])
            self.assertEqual(sum(told) - house[0], len(table_roots(house, 200)))


class Sizes(unittest.TestCase):
    def test_of_each_kind(self):
        for kind, house in KIND_HOUSES.items():
            self.assertEqual(size(house), SIZES[kind], kind)

    def test_of_several_parts(self):
        for names in TOGETHER:
            expected = 1
            for name in names:
                expected *= SIZES[name]
            self.assertEqual(size(house_together(names)), expected, names)


class Counts(unittest.TestCase):
    def test_written_out(self):
        for text, expected in (
            ("1", [1, 1]), ("2", [1, 2, 1]), ("2 ab3", [1, 2, 2, 1]), ("2 ab4", [1, 2, 2, 2, 1]),
            ("2 ab5", [1, 2, 2, 2, 2, 1]), ("2 ab6", [1, 2, 2, 2, 2, 2, 1]), ("3", [1, 3, 3, 1]),
            ("3 ab3 bc3", [1, 3, 5, 6, 5, 3, 1]), ("3 ab3 bc4", [1, 3, 5, 7, 8, 8, 7, 5, 3, 1]),
            ("3 ab3 bc5", [1, 3, 5, 7, 9, 11, 12, 12, 12, 12, 11, 9, 7, 5, 3, 1]), ("6", [1, 6, 15, 20, 15, 6, 1]),
        ):
            with self.subTest(text=text):
                self.assertEqual(counts(house_of(text)), expected)

    def test_against_the_words_that_are_unlike(self):
        for house in ENDING:
            told = counts(house)
            signs = len(told) - 1 if house[0] < 3 else min(len(told) - 1, 4)
            seen = {}
            for word in words_up_to(house[0], signs):
                # Words of fewer signs come first, so each is seen first by its length.
                seen.setdefault(tuple(table_images(house, word)), len(word))
            lengths = list(seen.values())
            self.assertEqual(told[:signs + 1], [lengths.count(k) for k in range(signs + 1)])

    def test_against_all_least_words(self):
        for house in ENDING + [KIND_HOUSES[kind] for kind in ("a4", "b4", "d4", "f4", "a5", "d5")]:
            self.assertEqual(counts(house), [len(level) for level in table_levels(house, 1000)])

    def test_against_swaps(self):
        for mirrors in range(1, 6):
            for with_four in (False, True):
                chain = Swaps(mirrors, with_four)
                lengths = [len(word) for word in chain.words.values()]
                self.assertEqual(counts(chain.house), [lengths.count(k) for k in range(max(lengths) + 1)])

    def test_against_steps_from_a_corner(self):
        for house in list(KIND_HOUSES.values()) + [house_together(names) for names in TOGETHER[::4]]:
            if size(house) < 60000:
                self.assertEqual(counts(house), steps_from_a_corner(house))

    def test_their_sum_their_first_and_their_last(self):
        for house in [house_together(names) for names in TOGETHER]:
            told = counts(house)
            self.assertEqual(sum(told), size(house))
            self.assertEqual([told[0], told[1], told[-1]], [1, house[0], 1])
            self.assertEqual(told, told[::-1])
            self.assertEqual(len(told) - 1, sum(degrees(house)) - house[0])

    def test_the_kinds_of_what_is_told(self):
        for house in ENDING[::5]:
            self.assertEqual([type(degrees(house)), type(size(house)), type(counts(house))], [list, int, list])
            self.assertEqual({type(number) for number in degrees(house) + counts(house)}, {int})


class NeverEnding(unittest.TestCase):
    def check(self, house, mirrors):
        self.assertEqual(endless(house), tuple(mirrors))
        self.assertIs(type(endless(house)), tuple)
        for question in (degrees, size, counts):
            with self.subTest(house=house, question=question.__name__):
                with self.assertRaises(Endless) as taken:
                    question(house)
                self.assertIs(type(taken.exception), Endless)
                self.assertIsInstance(taken.exception, HouseError)
                self.assertIs(type(taken.exception.mirrors), list)
                self.assertEqual(taken.exception.mirrors, list(mirrors))

    def test_none_where_all_parts_end(self):
        for house in list(KIND_HOUSES.values()) + [house_together(names) for names in TOGETHER]:
            self.assertIsNone(endless(house))

    def test_one_part(self):
        for house in NEARLY:
            self.check(house, range(house[0]))

    def test_the_first_of_several(self):
        for text, mirrors in (
            ("2 ab*", [0, 1]), ("3 ab*", [0, 1]), ("3 bc*", [1, 2]), ("3 ac*", [0, 2]), ("4 ab* cd*", [0, 1]),
            ("4 ad* bc*", [0, 3]), ("4 ac3 bd*", [1, 3]), ("6 ab3 ce6 ef3 cf4", [2, 4, 5]),
            ("6 ab3 cf* de*", [2, 5]), ("6 ac6 bd* ce6", [0, 2, 4]), ("6 bd3 df3 bf3 ac* ae3", [0, 2, 4]),
        ):
            self.check(house_of(text), mirrors)

    def test_with_parts_that_end_beside_it(self):
        for house in NEARLY:
            if house[0] <= 4:
                for name in ("a1", "a2", "b2"):
                    both = beside([KIND_HOUSES[name], house])
                    for numbering in some_numberings(both[0], 3, 3):
                        self.check(renumbered(both, numbering), sorted(numbering[KIND_HOUSES[name][0]:]))

    def test_the_kinds_of_such_a_house_are_told_all_the_same(self):
        self.assertEqual(kinds(house_of("4 ab* cd5")), [([0, 1], "-"), ([2, 3], "i5")])

    def test_each_refusal_keeps_a_list_of_its_own(self):
        house = house_of("3 ab* bc3")
        kept = []
        for question in (degrees, size, counts, counts):
            with self.assertRaises(Endless) as taken:
                question(house)
            kept.append(taken.exception)
        kept[0].mirrors.clear()
        kept[1].mirrors.append(7)
        self.assertEqual([error.mirrors for error in kept], [[], [0, 1, 2, 7], [0, 1, 2], [0, 1, 2]])
        self.check(house, [0, 1, 2])

    def test_every_power_of_the_word_is_short(self):
        houses = NEVER_ENDING[::2] + NEARLY + [house for house in CHOICE if endless(house) is not None]
        for house in houses:
            word = endless(house)
            self.assertEqual(sorted(set(word)), list(word))
            for power in range(60 // len(word) + 1):
                if power < 4 or power > 60 // len(word) - 2:
                    self.assertIs(is_short(house, word * power), True, (house, power))

    def test_no_high_power_is_short_where_the_house_ends(self):
        for house in KIND_HOUSES.values():
            # No word of more signs than h4 has roots above nought, which are sixty, is short in such a house.
            word = tuple(range(house[0])) * (60 // house[0] + 1)
            self.assertIs(is_short(house, word), False)


if __name__ == "__main__":
    unittest.main()
