"""Points 8 and 9: short words, lengths, how words are shortened, and the roots that they turn."""

import itertools
import unittest

from helpers import (
    CHOICE, UP_TO_THREE, UP_TO_TWO, Swaps, alternating, every_word, house_of, reached, sixty_signs, some_words,
    table_images, table_least, table_led, table_simple, without_pairs, word_of, words_up_to,
)
from mirrorhouse.least import least, turned
from mirrorhouse.rows import is_above, is_below, led, simple
from mirrorhouse.words import is_short, length, shortened

CHAINS = [Swaps(mirrors, with_four) for mirrors in (2, 3, 4, 5) for with_four in (False, True)]
NO_TURNS = [(mirrors, [(i, j, 0) for i, j in itertools.combinations(range(mirrors), 2)]) for mirrors in range(1, 7)]


def without_both(word, i, j):
    return word[:i] + word[i + 1:j] + word[j + 1:]


class ShortWords(unittest.TestCase):
    def test_the_empty_word(self):
        for house in CHOICE:
            self.assertIs(is_short(house, ()), True)
            self.assertEqual(length(house, ()), 0)
            self.assertEqual(shortened(house, ()), ((), []))

    def test_one_sign(self):
        for house in CHOICE:
            for i in range(house[0]):
                self.assertIs(is_short(house, (i,)), True)
                self.assertEqual(length(house, (i,)), 1)

    def test_one_mirror(self):
        for signs in range(61):
            self.assertIs(is_short((1, []), (0,) * signs), signs < 2)
            self.assertEqual(length((1, []), (0,) * signs), signs % 2)

    def test_two_mirrors_in_turn(self):
        for m in (2, 3, 4, 5, 6):
            house = (3, [] if m == 2 else [(0, 2, m)])
            for i, j in ((0, 2), (2, 0)):
                for signs in range(61):
                    around = signs % (2 * m)
                    self.assertEqual(length(house, alternating(i, j, signs)), min(around, 2 * m - around))
                    self.assertIs(is_short(house, alternating(i, j, signs)), signs <= m)

    def test_two_mirrors_that_never_turn_round(self):
        for house in (house_of("2 ab*"), house_of("6 ab* bc3 cd6")):
            for signs in range(61):
                self.assertIs(is_short(house, alternating(1, 0, signs)), True)
                self.assertEqual(length(house, alternating(1, 0, signs)), signs)

    def test_written_out(self):
        house = house_of("3 ab3 bc5")
        for text, short in (("aba", True), ("abab", False), ("acb", True), ("aca", False), ("bcbcb", True),
                            ("bcbcbc", False), ("abcba", True), ("abcbacb", True), ("cbcbabcbc", True)):
            self.assertIs(is_short(house, word_of(text)), short)

    def test_every_small_word_of_every_small_house(self):
        for house in UP_TO_TWO:
            for word in words_up_to(house[0], 8):
                signs = len(table_least(house, word))
                self.assertEqual(length(house, word), signs)
                self.assertIs(is_short(house, word), signs == len(word))
        for house in UP_TO_THREE:
            for word in every_word(house[0], 4) + some_words(house, 20, 9, 1):
                signs = len(table_least(house, word))
                self.assertEqual(length(house, word), signs)
                self.assertIs(is_short(house, word), signs == len(word))

    def test_no_fewer_signs_lead_alike(self):
        for house in UP_TO_THREE[::11]:
            words = words_up_to(house[0], 4)
            fewest = {}
            for word in words:
                fewest.setdefault(tuple(table_images(house, word)), len(word))
            for word in words:
                self.assertEqual(length(house, word), fewest[tuple(table_images(house, word))])

    def test_houses_of_one_to_six_mirrors(self):
        for house in CHOICE:
            for word in some_words(house, 12, 7, 2):
                signs = len(table_least(house, word))
                self.assertEqual(length(house, word), signs)
                self.assertIs(is_short(house, word), signs == len(word))

    def test_sixty_signs_in_chains(self):
        for chain in CHAINS:
            for word in sixty_signs(chain.house, 10, 3) + some_words(chain.house, 30, 20, 4):
                self.assertEqual(length(chain.house, word), len(chain.least(word)))
                self.assertIs(is_short(chain.house, word), len(word) == len(chain.least(word)))

    def test_sixty_signs_where_no_mirrors_turn_round(self):
        for house in NO_TURNS:
            for word in sixty_signs(house, 10, 5):
                self.assertEqual(length(house, word), len(without_pairs(word)))
        house = NO_TURNS[5]
        self.assertIs(is_short(house, (0, 1, 2, 3, 4, 5) * 10), True)
        self.assertIs(is_short(house, (0, 1, 2, 3, 4, 5) * 9 + (0, 1, 2, 3, 4, 4)), False)

    def test_the_longest_words(self):
        for text, longest in (("3 ab3 bc5", 15), ("4 ab3 bc4 cd3", 24), ("4 ab3 bc3 bd3", 12), ("2 ab6", 6),
                              ("4 ab3 bc3 cd5", 60), ("6 ab3 bc3 cd3 de3 cf3", 36), ("6", 6)):
            house = house_of(text)
            word = ()
            grows = True
            while grows:
                longer = [word + (i,) for i in range(house[0]) if is_short(house, word + (i,))]
                grows = longer != []
                word = longer[-1] if grows else word
            self.assertEqual(len(word), longest)


class Lengths(unittest.TestCase):
    def test_from_behind(self):
        for house in CHOICE:
            for word in some_words(house, 10, 30, 6) + sixty_signs(house, 2, 7):
                self.assertEqual(length(house, word), length(house, word[::-1]))

    def test_one_word_behind_the_other(self):
        for house in CHOICE:
            for one, other in itertools.permutations(some_words(house, 6, 15, 8), 2):
                first, second, both = length(house, one), length(house, other), length(house, one + other)
                self.assertLessEqual(both, first + second)
                self.assertGreaterEqual(both, abs(first - second))
                self.assertEqual((first + second - both) % 2, 0)

    def test_a_word_with_itself_from_behind(self):
        for house in CHOICE:
            for word in some_words(house, 4, 30, 9):
                self.assertEqual(length(house, word + word[::-1]), 0)

    def test_a_mirror_put_behind(self):
        for house in CHOICE + UP_TO_THREE[::5]:
            for word in some_words(house, 6, 12, 10) + sixty_signs(house, 1, 11):
                before = length(house, word)
                for i in range(house[0]):
                    row = table_led(house, word, table_simple(house, i))
                    self.assertNotEqual(is_above(row), is_below(row))
                    self.assertEqual(length(house, word + (i,)), before + (1 if is_above(row) else -1))

    def test_the_kinds(self):
        house = house_of("3 ab3 bc5")
        self.assertIs(type(length(house, (0, 1, 1))), int)
        told = shortened(house, (0, 1, 1, 0, 2))
        self.assertEqual([type(told), type(told[0]), type(told[1])], [tuple, tuple, list])
        self.assertEqual([type(pair) for pair in told[1]], [tuple, tuple])


class Shortened(unittest.TestCase):
    def walk(self, house, word):
        """Walk the told pairs, looking at each of them as point 9 tells it."""
        short, pairs = shortened(house, word)
        now = word
        for i, j in pairs:
            self.assertTrue(0 <= i < j < len(now))
            self.assertTrue(is_short(house, now[:j]))
            self.assertFalse(is_short(house, now[:j + 1]))
            after = without_both(now, i, j)
            self.assertEqual(table_images(house, after), table_images(house, now))
            now = after
        self.assertEqual(now, short)
        self.assertTrue(is_short(house, short))
        return short

    def test_written_out(self):
        house = house_of("3 ab3 bc5")
        for text, short, pairs in (
            ("a", "a", []), ("abcba", "abcba", []), ("aa", "", [(0, 1)]), ("abab", "ba", [(0, 3)]),
            ("aca", "c", [(0, 2)]), ("caac", "", [(1, 2), (0, 1)]), ("abba", "", [(1, 2), (0, 1)]),
            ("aabbcc", "", [(0, 1), (0, 1), (0, 1)]), ("babab", "a", [(0, 3), (1, 2)]), ("cabab", "cba", [(1, 4)]),
            ("bcbcbc", "cbcb", [(0, 5)]), ("ababa", "b", [(0, 3), (1, 2)]),
        ):
            with self.subTest(text=text):
                self.assertEqual(shortened(house, word_of(text)), (word_of(short), pairs))

    def test_short_words_stay(self):
        for house in CHOICE:
            for word in some_words(house, 20, 8, 12):
                if is_short(house, word):
                    self.assertEqual(shortened(house, word), (word, []))
                else:
                    self.assertNotEqual(shortened(house, word)[1], [])

    def test_every_small_word_and_every_other_place(self):
        for house in UP_TO_THREE[::4]:
            for word in every_word(house[0], 5):
                now = word
                for i, j in shortened(house, word)[1]:
                    head = now[:j + 1]
                    alike = [k for k in range(j) if table_images(house, without_both(head, k, j))
                             == table_images(house, head)]
                    self.assertEqual(alike, [i])
                    now = without_both(now, i, j)

    def test_every_house_of_up_to_three_mirrors(self):
        for house in UP_TO_THREE:
            for word in some_words(house, 12, 12, 13):
                short = self.walk(house, word)
                self.assertEqual(len(short), length(house, word))

    def test_the_short_word_is_reached_by_moves(self):
        for house in UP_TO_THREE:
            for word in some_words(house, 12, 8, 14):
                self.assertIn(shortened(house, word)[0], reached(house, word))

    def test_many_mirrors_and_up_to_sixty_signs(self):
        for house in CHOICE:
            for word in some_words(house, 6, 59, 15) + sixty_signs(house, 2, 16):
                self.walk(house, word)

    def test_sixty_signs_of_one_mirror(self):
        for house in CHOICE:
            self.assertEqual(shortened(house, (0,) * 60), ((), [(0, 1)] * 30))

    def test_sixty_signs_that_fall_from_the_midst(self):
        house = NO_TURNS[5]
        half = (0, 1, 2, 3, 4, 5) * 5
        self.assertEqual(shortened(house, half + half[::-1]), ((), [(29 - k, 30 - k) for k in range(30)]))

    def test_sixty_signs_round_and_round(self):
        house = house_of("2 ab6")
        short, pairs = shortened(house, alternating(0, 1, 60))
        self.assertEqual(short, ())
        # The seventh sign falls out with the first one; each later one then finds its like at the end.
        self.assertEqual(pairs, [(0, 6), (4, 5), (3, 4), (2, 3), (1, 2), (0, 1)] * 5)


class RootsTurned(unittest.TestCase):
    def test_none(self):
        for house in CHOICE:
            self.assertEqual(turned(house, ()), [])
            self.assertEqual(turned(house, (0, 0)), [])

    def test_written_out(self):
        one, nought, g = (1, 0), (0, 0), (0, 1)
        self.assertEqual(turned(house_of("2 ab3"), (0, 1)), [(nought, one), (one, one)])
        self.assertEqual(turned(house_of("2 ab3"), (1, 0)), [(one, nought), (one, one)])
        self.assertEqual(turned(house_of("2 ab5"), (1, 0)), [(one, nought), (g, one)])
        self.assertEqual(turned(house_of("2 ab6"), (1, 0)), [(one, nought), ((3, 0), one)])
        self.assertEqual(turned(house_of("2 ab6"), (0, 1)), [(nought, one), (one, one)])
        self.assertEqual(turned(house_of("2 ab3"), (0, 1, 0)), [(one, nought), (one, one), (nought, one)])
        self.assertEqual(turned(house_of("2 ab3"), (1, 0, 1)), [(nought, one), (one, one), (one, nought)])

    def test_short_words_in_their_own_order(self):
        # Each of the two is short, but they have unlike orders though they turn the same roots.
        house = (3, [])
        self.assertEqual(turned(house, (2, 0)), [simple(house, 0), simple(house, 2)])
        self.assertEqual(turned(house, (0, 2)), [simple(house, 2), simple(house, 0)])

    def test_from_behind(self):
        for house in CHOICE + UP_TO_THREE[::3]:
            for word in some_words(house, 8, 8, 17):
                if is_short(house, word):
                    roots = [
                        table_led(house, word[:k:-1], table_simple(house, word[k]))
                        for k in range(len(word) - 1, -1, -1)
                    ]
                    self.assertEqual(turned(house, word), roots)

    def test_those_of_the_least_word_where_not_short(self):
        found = 0
        for house in CHOICE + UP_TO_THREE[::3]:
            for word in some_words(house, 8, 12, 18) + sixty_signs(house, 1, 19):
                if not is_short(house, word):
                    found += 1
                    self.assertEqual(turned(house, word), turned(house, least(house, word)))
        self.assertGreater(found, 100)

    def test_not_those_of_the_shortened_word(self):
        # The signs fall out to ba, a short word that is the same as the least one ab, with another order.
        house = house_of("3")
        word = word_of("bacc")
        self.assertEqual(shortened(house, word)[0], word_of("ba"))
        self.assertEqual(turned(house, word), [simple(house, 1), simple(house, 0)])

    def test_as_many_as_the_length_above_and_led_below(self):
        for house in CHOICE:
            for word in some_words(house, 8, 20, 20) + sixty_signs(house, 2, 21):
                roots = turned(house, word)
                self.assertIs(type(roots), list)
                self.assertEqual(len(roots), length(house, word))
                self.assertEqual(len(set(roots)), len(roots))
                for root in roots:
                    self.assertTrue(is_above(root))
                    self.assertTrue(is_below(led(house, word, root)))

    def test_all_of_them_in_houses_with_an_end(self):
        for text, longest in (("2 ab6", 6), ("3 ab3 bc4", 9), ("3 ab3 bc5", 15), ("4 ab3 bc3 bd3", 12)):
            house = house_of(text)
            above = set()
            for word in words_up_to(house[0], longest if longest < 7 else 5) + some_words(house, 200, 40, 22):
                above |= {root for root in table_images(house, word) if is_above(root)}
            self.assertEqual(len(above), longest)
            for word in some_words(house, 50, 20, 23):
                expected = {root for root in above if is_below(table_led(house, word, root))}
                self.assertEqual(set(turned(house, word)), expected)


if __name__ == "__main__":
    unittest.main()
