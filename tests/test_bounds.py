"""Point 3: answers come soon also at the bounds, and nothing somewhat beyond them is refused."""

import itertools
import time
import unittest

from helpers import (
    CHOICE, KIND_HOUSES, NEARLY, beside, house_of, kinds_together, sixty_signs, some_words, table_images, without_pairs,
)
from mirrorhouse.desk import Desk
from mirrorhouse.errors import Endless, TooMany
from mirrorhouse.houses import shown_house, shown_word
from mirrorhouse.kinds import counts, degrees, endless, kinds, size
from mirrorhouse.least import least, parted, same, turned
from mirrorhouse.papers import to_least, walked
from mirrorhouse.places import places
from mirrorhouse.rooms import below, split
from mirrorhouse.rows import images, is_above, is_below, led, mirrored
from mirrorhouse.words import is_short, length, shortened

SECONDS = 2
HUGE = 10 ** 200 - 1
PAIRS = list(itertools.combinations(range(6), 2))
FULL = [(6, [(i, j, m) for i, j in PAIRS]) for m in (0, 3, 4, 5, 6)]
FULL.append((6, [(i, j, (0, 3, 4, 5, 6)[k % 5]) for k, (i, j) in enumerate(PAIRS)]))
TOGETHER = [beside([KIND_HOUSES[name] for name in names]) for names in kinds_together(6, sorted(KIND_HOUSES))]
HOUSES = FULL + [house_of("4 ab3 bc3 cd5"), house_of("6 ab3 bc3 cd3 de3 cf3"), (6, []), (1, [])]


class Soon(unittest.TestCase):
    def soon(self, question, *handed):
        # The time of this process alone, so that what else the machine does makes no difference.
        begun = time.process_time()
        try:
            return question(*handed)
        finally:
            self.assertLess(time.process_time() - begun, SECONDS, question.__name__)

    def words(self, house):
        circle = tuple(k % house[0] for k in range(60))
        return sixty_signs(house, 3, 1) + [circle, circle[:30] + circle[29::-1], (0,) * 60]

    def test_rows_of_two_hundred_figures(self):
        for house in HOUSES:
            row = tuple((HUGE - k, -HUGE + 7 * k) for k in range(house[0]))
            self.soon(mirrored, house, 0, row)
            for word in self.words(house):
                told = self.soon(led, house, word, row)
                self.soon(is_above, told)
                self.soon(is_below, told)
                self.assertEqual(self.soon(led, house, word[::-1], told), row)

    def test_words_of_sixty_signs(self):
        for house in HOUSES:
            for word in self.words(house):
                for question in (images, is_short, shortened, length, least, turned):
                    self.soon(question, house, word)
                for other in (word, word[::-1]):
                    self.soon(same, house, word, other)
                    self.soon(parted, house, word, other)

    def test_words_of_ten_signs_to_the_least_one(self):
        for house in HOUSES + CHOICE:
            for word in some_words(house, 20, 10, 2) + [tuple((9 - k) % house[0] for k in range(10))]:
                paper = self.soon(to_least, house, word)
                self.assertEqual(self.soon(walked, house, word, paper), least(house, word))

    def test_papers_of_twenty_thousand_moves(self):
        word = (5, 4, 5, 4, 5, 4, 5, 4, 5, 4)
        house = (6, [(i, j, 6) for i, j in PAIRS])
        self.assertEqual(self.soon(walked, house, word, [("turn", 2, 5, 4), ("turn", 2, 4, 5)] * 10000), word)


    def test_kinds_and_counts(self):
        for house in HOUSES + CHOICE + NEARLY + TOGETHER:
            self.soon(kinds, house)
            if self.soon(endless, house) is None:
                self.assertEqual(self.soon(size, house), sum(self.soon(counts, house)))
                self.assertEqual(len(self.soon(degrees, house)), house[0])
            else:
                for question in (degrees, size, counts):
                    with self.assertRaises(Endless):
                        self.soon(question, house)

    def test_two_thousand_places(self):
        for house in HOUSES + CHOICE + NEARLY + TOGETHER:
            if endless(house) is not None or size(house) > 2000:
                with self.assertRaises(TooMany):
                    self.soon(places, house, 2000)
            elif size(house) > 1000:
                self.assertEqual(len(self.soon(places, house, 2000)), size(house))

    def test_rooms_and_the_order_with_words_of_sixty_signs(self):
        for house in HOUSES:
            words = self.words(house)
            for word in words:
                for part in ([], [0], list(range(house[0]))[::2], list(range(house[0]))):
                    outer, inner = self.soon(split, house, word, part)
                    self.assertEqual(len(outer) + len(inner), length(house, word))
                for other in words:
                    self.soon(below, house, word, other)

    def test_rows_of_the_desk(self):
        for house in HOUSES:
            desk = Desk()
            self.assertEqual(self.soon(desk.say, "house " + shown_house(house)), "ok")
            for row in ("kinds", "size", "counts"):
                self.soon(desk.say, row)
            one, other = [shown_word(word[:20]) for word in self.words(house)[:2]]
            for question in ("least", "short", "length", "turns"):
                self.assertNotIn(self.soon(desk.say, f"{question} {one}"), ("what", "no text", "no word"))
            for question in ("same", "below"):
                self.assertIn(self.soon(desk.say, f"{question} {one} {other}").split(" ")[0], ("yes", "no"))

    def test_rows_of_two_thousand_signs(self):
        desk = Desk()
        for row, answer in (
            ("x" * 2000, "what"), (" " * 2000, "what"), ("same" + " a" * 998, "what"),
            ("least " + "a " * 997, "no text"), ("least " + "b" * 1994, "no word"),
            ("house 6" + " ab3" * 498, "no house"), ("house " + "6" * 1994, "no text"), ("kinds " + "a" * 1994, "what"),
        ):
            self.assertEqual(self.soon(desk.say, row), answer)


class SomewhatBeyond(unittest.TestCase):
    def test_words_of_eighty_signs(self):
        for house in HOUSES + CHOICE:
            word = sixty_signs(house, 1, 3)[0] + sixty_signs(house, 1, 4)[0][:20]
            short, pairs = shortened(house, word)
            self.assertEqual(len(short), len(word) - 2 * len(pairs))
            self.assertEqual(len(short), length(house, word))
            self.assertEqual(len(turned(house, word)), len(short))
            self.assertEqual(table_images(house, least(house, word)), table_images(house, word))

    def test_rooms_and_the_order_with_words_of_eighty_signs(self):
        for house in HOUSES + CHOICE:
            word = sixty_signs(house, 1, 3)[0] + sixty_signs(house, 1, 4)[0][:20]
            outer, inner = split(house, word, list(range(house[0]))[1:])
            self.assertEqual(table_images(house, outer + inner), table_images(house, word))
            self.assertEqual(len(outer) + len(inner), length(house, word))
            signs = least(house, word)
            self.assertEqual(below(house, word, word), list(range(len(signs))))
            told = below(house, signs[::2], word)
            self.assertTrue(same(house, tuple(signs[place] for place in told), signs[::2]))

    def test_words_of_sixty_signs_at_the_desk(self):
        for house in CHOICE:
            desk = Desk()
            desk.say("house " + shown_house(house))
            for word in sixty_signs(house, 2, 7):
                self.assertEqual(desk.say("least " + shown_word(word)), shown_word(least(house, word)))

    def test_more_places_than_two_thousand(self):
        self.assertEqual(len(places(house_of("5 ab3 bc3 cd3 de4"), 3840)), 3840)
        with self.assertRaises(TooMany):
            places((1, []), 0)

    def test_long_words_where_no_mirrors_turn_round(self):
        word = sixty_signs(FULL[0], 1, 5)[0] * 2
        self.assertEqual(least(FULL[0], word), without_pairs(word))

    def test_papers_of_words_of_sixteen_signs(self):
        for house in HOUSES + CHOICE:
            for word in sixty_signs(house, 3, 6):
                word = word[:16]
                self.assertEqual(walked(house, word, to_least(house, word)), least(house, word))

    def test_numbers_of_more_figures(self):
        house = house_of("2 ab5")
        row = ((10 ** 300, -(10 ** 299)), (-3, 10 ** 301))
        self.assertEqual(led(house, (0, 1) * 5, row), row)


if __name__ == "__main__":
    unittest.main()
