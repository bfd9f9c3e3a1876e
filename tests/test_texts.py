"""Point 6: houses and words in texts."""

import itertools
import unittest

from mirrorhouse.errors import NoHouse, NoText, NoWord
from mirrorhouse.houses import read_house, read_word, shown_house, shown_word

LETTERS = "abcdef"
SIGNS = [chr(code) for code in range(32, 127) if chr(code) != "%"]

HOUSES = {
    "1": (1, []),
    "2": (2, []),
    "6": (6, []),
    "2 ab*": (2, [(0, 1, 0)]),
    "3 ab3 bc5": (3, [(0, 1, 3), (1, 2, 5)]),
    "4 ac4 ad6 bc* cd3": (4, [(0, 2, 4), (0, 3, 6), (1, 2, 0), (2, 3, 3)]),
    "6 ab3 ac4 bd5 ce6 df*": (6, [(0, 1, 3), (0, 2, 4), (1, 3, 5), (2, 4, 6), (3, 5, 0)]),
}


class TextCase(unittest.TestCase):
    def refused(self, refusal, call, *handed):
        with self.subTest(handed=handed):
            with self.assertRaises(refusal) as taken:
                call(*handed)
            self.assertIs(type(taken.exception), refusal)


class HousesShownAndRead(unittest.TestCase):
    def test_shown(self):
        for text, house in HOUSES.items():
            self.assertEqual(shown_house(house), text)

    def test_shown_with_turns_in_another_order(self):
        for text, house in HOUSES.items():
            for turns in itertools.permutations(house[1]):
                self.assertEqual(shown_house((house[0], list(turns))), text)

    def test_read(self):
        for text, house in HOUSES.items():
            self.assertEqual(read_house(text), house)

    def test_read_with_words_in_another_order(self):
        for text, house in HOUSES.items():
            figure, *words = text.split(" ")
            for other in itertools.permutations(words):
                self.assertEqual(read_house(" ".join([figure, *other])), house)

    def test_the_kinds_of_what_is_read(self):
        house = read_house("3 ab3 bc*")
        self.assertEqual([type(house), type(house[0]), type(house[1])], [tuple, int, list])
        for turn in house[1]:
            self.assertIs(type(turn), tuple)
            self.assertEqual([type(part) for part in turn], [int, int, int])

    def test_one_to_six_mirrors_with_all_pairs(self):
        figures = itertools.cycle("3456*")
        for mirrors in range(1, 7):
            pairs = list(itertools.combinations(range(mirrors), 2))
            told = [(pair, next(figures)) for pair in pairs]
            text = " ".join([str(mirrors)] + [LETTERS[i] + LETTERS[j] + figure for (i, j), figure in told])
            house = (mirrors, [(i, j, "*..3456".index(figure)) for (i, j), figure in told])
            self.assertEqual(shown_house(house), text)
            self.assertEqual(read_house(text), house)


class HousesRefusedAsTexts(TextCase):
    def check(self, text):
        self.refused(NoText, read_house, text)

    def test_empty(self):
        self.check("")

    def test_blanks(self):
        for text in (" ", "  ", " 2", "2 ", " 2 ab3", "2 ab3 ", "2  ab3", "3 ab3  bc3", "3   ab3"):
            self.check(text)

    def test_first_word(self):
        for sign in SIGNS:
            if sign not in "123456":
                self.check(sign)
                self.check(sign + " ab3")
        for text in ("12", "33", "03", "3.", "-1", "+3", "a", "ab3", "ab3 3", "3ab3", "3a", "123456"):
            self.check(text)

    def test_another_letter(self):
        for sign in SIGNS:
            if sign not in LETTERS:
                self.check(f"3 {sign}b3")
                self.check(f"3 a{sign}3")

    def test_another_figure(self):
        for sign in SIGNS:
            if sign not in "3456*":
                self.check(f"3 ab{sign}")

    def test_another_length(self):
        for word in ("a", "ab", "3", "a3", "ab33", "abc", "abc3", "ab34", "ab3*", "ab3bc3", "bc", "abcdef", "3456"):
            self.check(f"3 {word}")
            self.check(f"3 ab3 {word}")
            self.check(f"3 {word} ab3")

    def test_other_white_signs(self):
        for text in ("3\tab3", "3\nab3", "3 ab3\n", "\t3", "3 ab3\tbc3"):
            self.check(text)

    def test_two_thousand_signs(self):
        for text in ("a" * 2000, " " * 2000, "3" * 2000, "6" + " ab3" * 499 + " ab", "6 " + "ab3" * 666):
            self.assertIn(len(text), (1999, 2000))
            self.check(text)


class HousesRefusedAsHouses(TextCase):
    def check(self, text):
        self.refused(NoHouse, read_house, text)

    def test_letter_beyond_the_mirrors(self):
        for mirrors in range(1, 6):
            for letter in LETTERS[mirrors:]:
                self.check(f"{mirrors} a{letter}3")
        self.check("1 ab3")
        self.check("3 ab3 ef*")
        self.check("2 ef6")

    def test_greater_mirror_first(self):
        for one, other in itertools.combinations(LETTERS, 2):
            self.check(f"6 {other}{one}4")
        self.check("3 ab3 cb3")

    def test_twice_the_same(self):
        for letter in LETTERS:
            self.check(f"6 {letter}{letter}3")
        self.check("1 aa*")

    def test_told_twice(self):
        self.check("2 ab3 ab3")
        self.check("2 ab3 ab*")
        self.check("4 ab3 bc3 cd4 ab5")
        self.check("2 ab3 ba3")

    def test_two_thousand_signs(self):
        self.check("6" + " ab3" * 499)

    def test_no_text_goes_ahead(self):
        for fault in ("2 bc3", "3 ba3", "3 aa3", "3 ab3 ab4"):
            for behind in (" ", "  bc3", " ab2", " ag3", " ab", " ab33", " 3", " Ab3"):
                self.refused(NoText, read_house, fault + behind)
        self.refused(NoText, read_house, "7 ba3")
        self.refused(NoText, read_house, "0 aa3")
        self.refused(NoText, read_house, " 2 ba3")


class WordsShownAndRead(unittest.TestCase):
    def test_the_empty_one(self):
        self.assertEqual(shown_word(()), "1")
        for mirrors in range(1, 7):
            self.assertEqual(read_word((mirrors, []), "1"), ())

    def test_shown(self):
        self.assertEqual(shown_word((0,)), "a")
        self.assertEqual(shown_word((0, 1, 2, 3, 4, 5)), "abcdef")
        self.assertEqual(shown_word((2, 1, 1, 0)), "cbba")

    def test_read(self):
        self.assertEqual(read_word((1, []), "a"), (0,))
        self.assertEqual(read_word((6, []), "abcdef"), (0, 1, 2, 3, 4, 5))
        self.assertEqual(read_word((3, [(0, 1, 3)]), "cbba"), (2, 1, 1, 0))

    def test_the_kind_of_what_is_read(self):
        for text in ("1", "a", "ba"):
            word = read_word((2, []), text)
            self.assertIs(type(word), tuple)
            self.assertEqual([type(mirror) for mirror in word], [int] * len(word))

    def test_shown_and_read_back(self):
        for mirrors in range(1, 7):
            for signs in range(4):
                for word in itertools.product(range(mirrors), repeat=signs):
                    self.assertEqual(read_word((mirrors, []), shown_word(word)), word)

    def test_sixty_signs(self):
        word = (0, 1, 2, 3, 4, 5) * 10
        self.assertEqual(shown_word(word), "abcdef" * 10)
        self.assertEqual(read_word((6, []), "abcdef" * 10), word)

    def test_two_thousand_signs(self):
        self.assertEqual(read_word((2, []), "ab" * 1000), (0, 1) * 1000)


class WordsRefused(TextCase):
    def test_the_empty_text(self):
        self.refused(NoText, read_word, (3, []), "")

    def test_another_sign(self):
        for sign in SIGNS:
            if sign not in LETTERS + "1":
                for text in (sign, f"a{sign}", f"{sign}a", f"a{sign}b"):
                    for mirrors in (2, 6):
                        self.refused(NoText, read_word, (mirrors, []), text)

    def test_other_white_signs(self):
        for text in ("a\n", "\ta", "1\n"):
            self.refused(NoText, read_word, (3, []), text)

    def test_one_beside_others(self):
        for text in ("11", "1a", "a1", "a1b", "1 ", " 1", "111", "1f"):
            self.refused(NoText, read_word, (3, []), text)

    def test_letter_beyond_the_mirrors(self):
        for mirrors in range(1, 6):
            for letter in LETTERS[mirrors:]:
                for text in (letter, f"a{letter}", f"{letter}a", f"a{letter}a"):
                    self.refused(NoWord, read_word, (mirrors, []), text)

    def test_no_text_goes_ahead(self):
        for text in ("bg", "gb", "b1", "1b", "b ", " b", "bA", "b2", "f" * 1999 + "g", "f" * 1999 + "1"):
            self.refused(NoText, read_word, (1, []), text)

    def test_two_thousand_signs(self):
        self.refused(NoWord, read_word, (5, []), "a" * 1999 + "f")
        self.refused(NoText, read_word, (6, []), "a" * 1999 + "g")
        self.refused(NoText, read_word, (6, []), "1" * 2000)


if __name__ == "__main__":
    unittest.main()
