"""Point 11: moves, papers, walking one, and a paper to the least word."""

import itertools
import unittest

from helpers import (
    CHOICE, UP_TO_THREE, UP_TO_TWO, alternating, every_word, house_of, moves_from, some_words, table_least,
    table_turn, table_walked, word_of, words_up_to,
)
from mirrorhouse.least import least
from mirrorhouse.papers import to_least, walked

SIXTY = 10 ** 60 - 1
NO_PLACES = (-1, -2, -3, -10, -SIXTY, SIXTY)


def turn_house(m):
    return (3, [] if m == 2 else [(0, 1, m)])


class MovesThatCanBeDone(unittest.TestCase):
    def test_an_empty_paper(self):
        for house in CHOICE:
            for word in [()] + some_words(house, 5, 10, 1):
                self.assertEqual(walked(house, word, []), word)

    def test_drop(self):
        house = house_of("2 ab3")
        for text, place, after in (
            ("aa", 0, ""), ("aab", 0, "b"), ("baa", 1, "b"), ("abba", 1, "aa"), ("abaab", 2, "abb"), ("aaa", 0, "a"),
            ("aaa", 1, "a"), ("babababbab", 6, "bababaab"), ("babababaaa", 8, "babababa"),
        ):
            with self.subTest(text=text, place=place):
                self.assertEqual(walked(house, word_of(text), [("drop", place)]), word_of(after))

    def test_each_turn_in_either_order_and_at_each_place(self):
        for m in (2, 3, 4, 5, 6):
            house = turn_house(m)
            for i, j in ((0, 1), (1, 0)):
                for ahead, behind in itertools.product(((), (2,), (j,), (2, 2, 2)), ((), (2,), (j, j), (i,))):
                    word = ahead + alternating(i, j, m) + behind
                    after = ahead + alternating(j, i, m) + behind
                    self.assertEqual(walked(house, word, [("turn", len(ahead), i, j)]), after)

    def test_a_turn_takes_no_more_signs_than_they_turn_round_by(self):
        house = house_of("2 ab3")
        self.assertEqual(walked(house, word_of("ababab"), [("turn", 0, 0, 1)]), word_of("babbab"))
        self.assertEqual(walked(house, word_of("ababab"), [("turn", 1, 1, 0)]), word_of("aabaab"))
        self.assertEqual(walked(house, word_of("ababab"), [("turn", 3, 1, 0)]), word_of("abaaba"))

    def test_in_order(self):
        house = house_of("2 ab3")
        paper = [("turn", 0, 0, 1), ("drop", 2)]
        self.assertEqual(walked(house, word_of("abab"), paper), word_of("ba"))
        self.assertIsNone(walked(house, word_of("abab"), paper[::-1]))

    def test_every_move_of_every_small_word(self):
        for house in UP_TO_THREE[::3]:
            for word in every_word(house[0], 5):
                possible = dict(moves_from(house, word))
                for place in range(-2, 7):
                    move = ("drop", place)
                    self.assertEqual(walked(house, word, [move]), possible.get(move))
        for house in UP_TO_THREE[::20]:
            for word in every_word(house[0], 5):
                possible = dict(moves_from(house, word))
                for place, i, j in itertools.product(range(-2, 6), range(-1, 4), range(-1, 4)):
                    move = ("turn", place, i, j)
                    self.assertEqual(walked(house, word, [move]), possible.get(move))

    def test_ten_signs_in_turn(self):
        for m in (4, 5, 6):
            house = (2, [(0, 1, m)])
            word = alternating(0, 1, 10)
            for place in range(-3, 12):
                for i, j in ((0, 1), (1, 0)):
                    move = ("turn", place, i, j)
                    self.assertEqual(walked(house, word, [move]), dict(moves_from(house, word)).get(move))

    def test_the_kind(self):
        house = house_of("2 ab3")
        for paper in ([], [("drop", 0)], [("drop", 0), ("turn", 0, 1, 0)]):
            self.assertIs(type(walked(house, word_of("aabab"), paper)), tuple)


class MovesThatCannotBeDone(unittest.TestCase):
    def wrong(self, house, word, move):
        with self.subTest(house=house, word=word, move=move):
            self.assertIsNone(walked(house, word, [move]))

    def test_drop_at_a_place_that_is_not_there(self):
        for word in ((), (0,), (0, 0), (0, 0, 0), (0,) * 10):
            for place in NO_PLACES + (len(word), len(word) - 1, len(word) + 1):
                self.wrong((2, [(0, 1, 3)]), word, ("drop", place))

    def test_drop_of_unlike_signs(self):
        self.wrong(house_of("2 ab3"), (0, 1), ("drop", 0))
        self.wrong(house_of("2"), (0, 1, 0), ("drop", 0))
        self.wrong(house_of("2"), (0, 1, 1), ("drop", 0))
        self.wrong(house_of("3"), (2, 2, 0), ("drop", 1))

    def test_turn_at_a_place_that_is_not_there(self):
        for m in (2, 3, 4, 5, 6):
            for word in ((), (0,), alternating(0, 1, m), alternating(0, 1, 10), alternating(1, 0, 10)):
                for place in NO_PLACES + (len(word), len(word) + 1, -len(word), -m):
                    if place != 0:
                        self.wrong(turn_house(m), word, ("turn", place, 0, 1))
                        self.wrong(turn_house(m), word, ("turn", place, 1, 0))

    def test_no_mirror(self):
        for m in (2, 3, 6):
            house = turn_house(m)
            for word in ((), (0, 2), alternating(0, 1, m), alternating(2, 1, 10)):
                for none in (-1, -2, -3, 3, 4, 6, SIXTY, -SIXTY):
                    for other in (0, 1, 2, -1, 3, none, SIXTY):
                        self.wrong(house, word, ("turn", 0, none, other))
                        self.wrong(house, word, ("turn", 0, other, none))
                        self.wrong(house, word, ("turn", SIXTY, none, other))

    def test_the_same_mirror_twice(self):
        for m in (2, 3, 6):
            for word in ((), (0, 0), (0,) * 10, (1, 1, 1)):
                for i in range(3):
                    self.wrong(turn_house(m), word, ("turn", 0, i, i))
        self.wrong((1, []), (0, 0), ("turn", 0, 0, 0))

    def test_two_mirrors_that_never_turn_round(self):
        for word in ((), (0,), (0, 1), (1, 0), alternating(0, 1, 10)):
            for i, j in ((0, 1), (1, 0)):
                for place in range(-1, 11):
                    self.wrong((2, [(0, 1, 0)]), word, ("turn", place, i, j))

    def test_other_signs_at_the_place(self):
        for m in (2, 3, 4, 5, 6):
            house = turn_house(m)
            for k in range(m):
                word = list(alternating(0, 1, m)) + [2]
                for other in (2, 1 - word[k]):
                    changed = tuple(word[:k] + [other] + word[k + 1:])
                    self.wrong(house, changed, ("turn", 0, 0, 1))
            self.wrong(house, alternating(0, 1, m), ("turn", 0, 1, 0))
            self.wrong(house, alternating(1, 0, m), ("turn", 0, 0, 1))
            self.wrong(house, alternating(0, 1, m + 1), ("turn", 1, 0, 1))

    def test_too_few_signs_behind(self):
        for m in (2, 3, 4, 5, 6):
            for signs in range(m):
                self.wrong(turn_house(m), alternating(0, 1, signs), ("turn", 0, 0, 1))
                self.wrong(turn_house(m), (2, 2) + alternating(1, 0, signs), ("turn", 2, 1, 0))
                self.wrong(turn_house(m), (2,) + alternating(1, 0, signs), ("turn", 1, 1, 0))

    def test_signs_are_not_taken_from_the_beginning(self):
        # From the end on the signs would go on in turn if the word were a circle.
        self.wrong(house_of("2 ab4"), alternating(0, 1, 6), ("turn", 4, 0, 1))
        self.wrong(house_of("2"), (0, 1), ("turn", 1, 1, 0))
        self.wrong(house_of("2"), (0, 1, 0), ("drop", 2))
        self.wrong(house_of("2"), (0, 1, 0), ("drop", -1))

    def test_one_wrong_move_among_good_ones(self):
        house = house_of("2 ab3")
        good = [("turn", 0, 0, 1), ("turn", 0, 1, 0)]
        for bad in (("drop", 0), ("drop", 5), ("turn", 1, 1, 0), ("turn", 0, 0, 0), ("turn", -3, 0, 1)):
            for k in range(7):
                paper = (good * 3)[:k] + [bad] + (good * 3)[k:]
                self.assertIsNone(walked(house, word_of("aba"), paper))


class LongPapers(unittest.TestCase):
    def test_twenty_thousand_moves(self):
        for m in (2, 3, 4, 5, 6):
            house = turn_house(m)
            word = (2,) + alternating(0, 1, m) + (2,)
            paper = [("turn", 1, 0, 1), ("turn", 1, 1, 0)] * 10000
            self.assertEqual(walked(house, word, paper), word)
            self.assertIsNone(walked(house, word, paper[::-1]))
            self.assertEqual(walked(house, word, paper[:-1]), (2,) + alternating(1, 0, m) + (2,))

    def test_a_wrong_move_at_an_end(self):
        house = house_of("2 ab3")
        paper = [("turn", 0, 0, 1), ("turn", 0, 1, 0)] * 9999 + [("turn", 0, 0, 1)]
        self.assertEqual(walked(house, word_of("aba"), paper), word_of("bab"))
        self.assertIsNone(walked(house, word_of("aba"), paper + [("turn", 0, 0, 1)]))
        self.assertIsNone(walked(house, word_of("aba"), [("drop", SIXTY)] + paper))

    def test_ten_signs_of_six_mirrors(self):
        house = (6, [])
        word = (0, 1, 2, 3, 4, 5, 0, 1, 2, 3)
        there = [("turn", place, word[place], word[place + 1]) for place in (0, 2, 4, 6, 8)]
        back = [("turn", place, word[place + 1], word[place]) for place in (0, 2, 4, 6, 8)]
        paper = (there + back) * 2000
        self.assertEqual(len(paper), 20000)
        self.assertEqual(walked(house, word, paper), word)


class PapersToTheLeastWord(unittest.TestCase):
    def check(self, house, word):
        paper = to_least(house, word)
        self.assertIs(type(paper), list)
        for move in paper:
            self.assertIs(type(move), tuple)
            self.assertIn((move[0], len(move)), (("drop", 2), ("turn", 4)))
            self.assertEqual({type(part) for part in move[1:]}, {int})
        self.assertEqual(table_walked(house, word, paper), least(house, word))
        self.assertEqual(walked(house, word, paper), least(house, word))

    def test_a_least_word_and_a_pair(self):
        house = house_of("3 ab3 bc5")
        self.assertEqual(to_least(house, (0, 0)), [("drop", 0)])
        self.assertEqual(walked(house, (), to_least(house, ())), ())
        self.assertEqual(walked(house, (0, 1, 2), to_least(house, (0, 1, 2))), (0, 1, 2))

    def test_the_empty_word_and_one_sign(self):
        for house in CHOICE:
            self.check(house, ())
            for i in range(house[0]):
                self.check(house, (i,))

    def test_one_mirror(self):
        for signs in range(11):
            self.check((1, []), (0,) * signs)

    def test_every_word_of_houses_of_up_to_two_mirrors(self):
        for house in UP_TO_TWO:
            for word in words_up_to(house[0], 10):
                self.check(house, word)

    def test_every_house_of_up_to_three_mirrors(self):
        for house in UP_TO_THREE:
            for word in every_word(house[0], 4) + some_words(house, 30, 10, 2):
                self.check(house, word)

    def test_ten_signs(self):
        for house in CHOICE:
            for word in some_words(house, 400, 10, 3):
                if len(word) > 7:
                    self.check(house, word)

    def test_many_mirrors(self):
        for house in CHOICE:
            for word in some_words(house, 60, 10, 4):
                self.check(house, word)

    def test_words_far_from_the_least_one(self):
        for text in ("3 ab3 bc3", "3 ab3 bc4", "3 ab3 bc5", "4 ab3 bc3 cd3", "4 ab3 bc3 bd3", "4 ab3 bc4 cd3", "6",
                     "6 ab3 bc3 cd3 de3 ef3", "6 ab3 bc3 cd3 de3 cf3"):
            house = house_of(text)
            # The last short words of ten signs at most, taken from behind: many of their signs must turn.
            word = ()
            for _ in range(10):
                longer = [word + (i,) for i in range(house[0]) if len(least(house, word + (i,))) == len(word) + 1]
                word = longer[-1] if longer else word
            for other in (word, word[::-1], word + word[:10 - len(word)]):
                self.check(house, other)

    def test_the_least_word_by_the_table_alone(self):
        for house in UP_TO_THREE[::6] + CHOICE:
            for word in some_words(house, 5, 8 if house[0] < 6 else 7, 5):
                self.assertEqual(walked(house, word, to_least(house, word)), table_least(house, word))

    def test_the_turns_of_a_paper_are_those_of_the_house(self):
        house = house_of("4 ab5 ac3 ad* bc6 cd4")
        for word in some_words(house, 100, 10, 6):
            for move in to_least(house, word):
                if move[0] == "turn":
                    self.assertNotEqual(table_turn(house, move[2], move[3]), 0)


if __name__ == "__main__":
    unittest.main()
