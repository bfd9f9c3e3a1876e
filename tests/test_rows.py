"""Point 7: rows, simple rows, how mirrors and words lead them, above and below nought."""

import itertools
import random
import unittest

from helpers import (
    CHOICE, PULLS, UP_TO_THREE, alternating, house_of, house_with, sixty_signs, some_words, table_images, table_led,
    table_mirrored,
)
from mirrorhouse.rows import images, is_above, is_below, led, mirrored, simple

HUGE = 10 ** 200 - 1
LONG = int("1234567890" * 20)
NUMBERS = [
    (0, 0), (1, 0), (0, 1), (-1, 0), (0, -1), (3, -2), (-7, 5), (HUGE, HUGE), (-HUGE, LONG), (LONG, -HUGE),
    (-LONG, -HUGE), (0, -HUGE), (10 ** 199, 0),
]
TURNS = (2, 3, 4, 5, 6, 0)


def some_rows(house, how_many, figures, seed):
    chance = random.Random(seed)
    most = 10 ** figures - 1
    return [
        tuple((chance.randint(-most, most), chance.randint(-most, most)) for _ in range(house[0]))
        for _ in range(how_many)
    ]


class SimpleRows(unittest.TestCase):
    def test_written_out(self):
        self.assertEqual(simple((1, []), 0), ((1, 0),))
        self.assertEqual(simple((3, []), 0), ((1, 0), (0, 0), (0, 0)))
        self.assertEqual(simple(house_of("3 ab3 bc5"), 1), ((0, 0), (1, 0), (0, 0)))
        self.assertEqual(simple((3, []), 2), ((0, 0), (0, 0), (1, 0)))

    def test_each_mirror_of_one_to_six(self):
        for mirrors in range(1, 7):
            for i in range(mirrors):
                row = simple((mirrors, []), i)
                self.assertIs(type(row), tuple)
                self.assertEqual(len(row), mirrors)
                for j, number in enumerate(row):
                    self.assertIs(type(number), tuple)
                    self.assertEqual(number, (1, 0) if i == j else (0, 0))


class OneMirror(unittest.TestCase):
    def test_written_out(self):
        house = house_of("3 ab4 bc5")
        row = ((1, 0), (2, 0), (0, 3))
        self.assertEqual(mirrored(house, 0, row), ((3, 0), (2, 0), (0, 3)))
        # The pull of b on a is -1, and on c it is -g: -2 + 1 + g times 3g.
        self.assertEqual(mirrored(house, 1, row), ((1, 0), (2, 3), (0, 3)))
        self.assertEqual(mirrored(house, 2, row), ((1, 0), (2, 0), (0, -1)))

    def test_each_turn_in_either_order(self):
        for m, x, y in itertools.product(TURNS, NUMBERS, NUMBERS):
            house = house_with(2, [m])
            for i, (e, f) in enumerate(PULLS[m]):
                row = (x, y)
                (a, b), (c, d) = row[i], row[1 - i]
                # Twice the own number and the pull's part of the other fall away.
                number = (-a - (e * c + f * d), -b - (e * d + f * c + f * d))
                expected = (number, y) if i == 0 else (x, number)
                self.assertEqual(mirrored(house, i, row), expected)

    def test_each_turn_between_others(self):
        for m in TURNS:
            house = (6, [] if m == 2 else [(1, 4, m)])
            for row in some_rows(house, 5, 200, m):
                for i in (1, 4):
                    told = mirrored(house, i, row)
                    self.assertEqual(told, table_mirrored(house, i, row))
                    self.assertEqual(told[:i] + told[i + 1:], row[:i] + row[i + 1:])

    def test_each_mirror_of_many_houses(self):
        for house in CHOICE + UP_TO_THREE:
            for figures in (1, 200):
                for row in some_rows(house, 3, figures, figures):
                    for i in range(house[0]):
                        self.assertEqual(mirrored(house, i, row), table_mirrored(house, i, row))

    def test_its_own_simple_row(self):
        for house in CHOICE:
            for i in range(house[0]):
                expected = tuple((-1, 0) if j == i else (0, 0) for j in range(house[0]))
                self.assertEqual(mirrored(house, i, simple(house, i)), expected)

    def test_twice_leads_back(self):
        for house in CHOICE + UP_TO_THREE:
            for row in some_rows(house, 2, 200, 3):
                for i in range(house[0]):
                    self.assertEqual(mirrored(house, i, mirrored(house, i, row)), row)

    def test_the_kinds(self):
        row = mirrored(house_of("2 ab5"), 0, ((1, 2), (3, 4)))
        self.assertIs(type(row), tuple)
        for number in row:
            self.assertIs(type(number), tuple)
            self.assertEqual([type(part) for part in number], [int, int])


class Words(unittest.TestCase):
    def test_the_empty_word(self):
        for house in CHOICE:
            for row in some_rows(house, 2, 200, 4):
                self.assertEqual(led(house, (), row), row)

    def test_last_sign_first(self):
        house = house_of("2 ab3")
        self.assertEqual(led(house, (0, 1), simple(house, 0)), ((0, 0), (1, 0)))
        self.assertEqual(led(house, (1, 0), simple(house, 0)), ((-1, 0), (-1, 0)))
        house = house_of("3 ab4 bc6")
        row = ((1, 0), (0, 0), (0, 0))
        self.assertEqual(led(house, (2, 1, 0), row), mirrored(house, 2, mirrored(house, 1, mirrored(house, 0, row))))
        self.assertEqual(led(house, (2, 1, 0), row), ((-1, 0), (-1, 0), (-1, 0)))
        self.assertEqual(led(house, (0, 1, 2), row), ((1, 0), (1, 0), (0, 0)))

    def test_up_to_sixty_signs(self):
        for house in CHOICE:
            rows = some_rows(house, 2, 200, 5)
            for word in some_words(house, 3, 59, 6) + sixty_signs(house, 2, 7):
                for row in rows:
                    self.assertEqual(led(house, word, row), table_led(house, word, row))

    def test_from_behind_leads_back(self):
        for house in CHOICE:
            for word in some_words(house, 3, 59, 8) + sixty_signs(house, 2, 9):
                for row in some_rows(house, 2, 200, 10):
                    self.assertEqual(led(house, word[::-1], led(house, word, row)), row)

    def test_one_word_behind_the_other(self):
        for house in CHOICE:
            for one, other in itertools.combinations(some_words(house, 4, 20, 11), 2):
                for row in some_rows(house, 1, 200, 12):
                    self.assertEqual(led(house, one + other, row), led(house, one, led(house, other, row)))


class TurningRound(unittest.TestCase):
    def leads_to_itself(self, house, word):
        return all(led(house, word, simple(house, i)) == simple(house, i) for i in range(house[0]))

    def test_as_often_as_they_turn_round_and_no_fewer_times(self):
        for m in (2, 3, 4, 5, 6):
            for mirrors, i, j in ((2, 0, 1), (4, 1, 3), (6, 0, 5)):
                house = (mirrors, [] if m == 2 else [(i, j, m)])
                for pair in ((i, j), (j, i)):
                    for times in range(1, m):
                        self.assertFalse(self.leads_to_itself(house, pair * times))
                    self.assertTrue(self.leads_to_itself(house, pair * m))

    def test_never(self):
        for house in (house_of("2 ab*"), house_of("3 ab* bc3")):
            for pair in ((0, 1), (1, 0)):
                for times in range(1, 31):
                    self.assertFalse(self.leads_to_itself(house, pair * times))

    def test_each_pair_among_other_mirrors(self):
        for house in CHOICE:
            turns = {(i, j): m for i, j, m in house[1]}
            for i, j in itertools.combinations(range(house[0]), 2):
                m = turns.get((i, j), 2)
                for times in range(1, 8):
                    word = alternating(i, j, 2 * times)
                    self.assertEqual(self.leads_to_itself(house, word), m != 0 and times % m == 0)


class Images(unittest.TestCase):
    def test_of_the_empty_word(self):
        self.assertEqual(images((1, []), ()), [((1, 0),)])
        self.assertEqual(images(house_of("2 ab5"), ()), [((1, 0), (0, 0)), ((0, 0), (1, 0))])

    def test_written_out(self):
        self.assertEqual(images(house_of("2 ab5"), (0,)), [((-1, 0), (0, 0)), ((0, 1), (1, 0))])
        self.assertEqual(images(house_of("2 ab6"), (0,)), [((-1, 0), (0, 0)), ((3, 0), (1, 0))])
        self.assertEqual(images(house_of("2 ab6"), (1,)), [((1, 0), (1, 0)), ((0, 0), (-1, 0))])
        self.assertEqual(images(house_of("2 ab3"), (0, 1)), [((0, 0), (1, 0)), ((-1, 0), (-1, 0))])

    def test_in_the_order_of_the_mirrors(self):
        for house in CHOICE:
            for word in some_words(house, 3, 10, 13) + sixty_signs(house, 1, 14):
                told = images(house, word)
                self.assertIs(type(told), list)
                self.assertEqual(told, [led(house, word, simple(house, i)) for i in range(house[0])])
                self.assertEqual(told, table_images(house, word))


class AboveAndBelow(unittest.TestCase):
    def check(self, row, above, below):
        with self.subTest(row=row):
            self.assertIs(is_above(row), above)
            self.assertIs(is_below(row), below)

    def both_ways(self, row):
        self.check(row, True, False)
        self.check(tuple((-a, -b) for a, b in row), False, True)

    def test_noughts(self):
        for mirrors in range(1, 7):
            self.check(((0, 0),) * mirrors, False, False)

    def test_one_sign(self):
        for row in (
            ((1, 0),), ((0, 1),), ((2, -1),), ((-1, 1),), ((1, 0), (0, 0)), ((0, 0), (1, 0)), ((0, 0), (0, 0), (5, -3)),
            ((1, 0), (2, 0), (3, 0)), ((0, 1), (0, 0), (-3, 2)), ((HUGE, HUGE), (0, 0), (1, 0), (LONG, 0), (0, 1), (1, 1)),
        ):
            self.both_ways(row)

    def test_unlike_signs(self):
        for row in (
            ((1, 0), (-1, 0)), ((-1, 0), (1, 0)), ((0, 0), (1, 0), (-1, 0)), ((1, 0), (1, 0), (1, 0), (0, -1)),
            ((-1, 1), (1, -1)), ((2, -1), (3, -2)), ((HUGE, 0), (0, -1)), ((-1, 0), (0, 0), (HUGE, 0)),
        ):
            self.check(row, False, False)

    def test_each_row_of_small_signs(self):
        for mirrors in range(1, 5):
            for row in itertools.product([(2, -1), (0, 0), (-2, 1)], repeat=mirrors):
                self.check(row, (2, -1) in row and (-2, 1) not in row, (-2, 1) in row and (2, -1) not in row)

    def test_close_to_nought(self):
        one, other = 1, 1
        # The number is a power of 1 - g, which lies below nought: the signs alternate, ever closer to nought.
        above = False
        while len(str(other)) <= 200:
            number = (other, -one) if above else (-other, one)
            self.both_ways((number,))
            self.both_ways(((0, 0), number, (0, 0)))
            self.check((number, (-number[0], -number[1])), False, False)
            one, other, above = other, one + other, not above

    def test_roots(self):
        for house in CHOICE:
            for word in some_words(house, 10, 20, 15) + sixty_signs(house, 2, 16):
                for root in images(house, word):
                    self.assertNotEqual(is_above(root), is_below(root))


if __name__ == "__main__":
    unittest.main()
