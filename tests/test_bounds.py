"""Point 3: answers come soon also at the bounds, and nothing somewhat beyond them is refused."""

import itertools
import time
import unittest

from helpers import CHOICE, house_of, sixty_signs, some_words, table_images, without_pairs
from mirrorhouse.least import least, parted, same, turned
from mirrorhouse.papers import to_least, walked
from mirrorhouse.rows import images, is_above, is_below, led, mirrored
from mirrorhouse.words import is_short, length, shortened

SECONDS = 2
HUGE = 10 ** 200 - 1
PAIRS = list(itertools.combinations(range(6), 2))
FULL = [(6, [(i, j, m) for i, j in PAIRS]) for m in (0, 3, 4, 5, 6)]
FULL.append((6, [(i, j, (0, 3, 4, 5, 6)[k % 5]) for k, (i, j) in enumerate(PAIRS)]))
HOUSES = FULL + [house_of("4 ab3 bc3 cd5"), house_of("6 ab3 bc3 cd3 de3 cf3"), (6, []), (1, [])]


class Soon(unittest.TestCase):
    def soon(self, question, *handed):
        begun = time.perf_counter()
        told = question(*handed)
        self.assertLess(time.perf_counter() - begun, SECONDS, question.__name__)
        return told

    def words(self, house):
        circle = tuple(k % house[0] for k in range(60))
        return sixty_signs(house, 3, 1) + [circle, circle[:30] + circle[29::-1], (0,) * 60]

    def test_rows_of_two_hundred_figures(self):
        for house in HOUSES:
            row = tuple((HUGE - k, -HUGE + 7 * k) for k in range(house[0]))
            self.soon(mirrored, house, 0, row)
            for word in self.words(house):
                told = self.soon(led, house, word, row)
                self.soon(is_above, told)
                self.soon(is_below, told)
                self.assertEqual(self.soon(led, house, word[::-1], told), row)

    def test_words_of_sixty_signs(self):
        for house in HOUSES:
            for word in self.words(house):
                for question in (images, is_short, shortened, length, least, turned):
                    self.soon(question, house, word)
                for other in (word, word[::-1]):
                    self.soon(same, house, word, other)
                    self.soon(parted, house, word, other)

    def test_words_of_ten_signs_to_the_least_one(self):
        for house in HOUSES + CHOICE:
            for word in some_words(house, 20, 10, 2) + [tuple((9 - k) % house[0] for k in range(10))]:
                paper = self.soon(to_least, house, word)
                self.assertEqual(self.soon(walked, house, word, paper), least(house, word))

    def test_papers_of_twenty_thousand_moves(self):
        word = (5, 4, 5, 4, 5, 4, 5, 4, 5, 4)
        house = (6, [(i, j, 6) for i, j in PAIRS])
        self.assertEqual(self.soon(walked, house, word, [("turn", 2, 5, 4), ("turn", 2, 4, 5)] * 10000), word)


class SomewhatBeyond(unittest.TestCase):
    def test_words_of_eighty_signs(self):
        for house in HOUSES + CHOICE:
            word = sixty_signs(house, 1, 3)[0] + sixty_signs(house, 1, 4)[0][:20]
            short, pairs = shortened(house, word)
            self.assertEqual(len(short), len(word) - 2 * len(pairs))
            self.assertEqual(len(short), length(house, word))
            self.assertEqual(len(turned(house, word)), len(short))
            self.assertEqual(table_images(house, least(house, word)), table_images(house, word))

    def test_long_words_where_no_mirrors_turn_round(self):
        word = sixty_signs(FULL[0], 1, 5)[0] * 2
        self.assertEqual(least(FULL[0], word), without_pairs(word))

    def test_papers_of_words_of_sixteen_signs(self):
        for house in HOUSES + CHOICE:
            for word in sixty_signs(house, 3, 6):
                word = word[:16]
                self.assertEqual(walked(house, word, to_least(house, word)), least(house, word))

    def test_numbers_of_more_figures(self):
        house = house_of("2 ab5")
        row = ((10 ** 300, -(10 ** 299)), (-3, 10 ** 301))
        self.assertEqual(led(house, (0, 1) * 5, row), row)


if __name__ == "__main__":
    unittest.main()
