"""Points 2 and 3 for stage 1: what is handed in stays, what is told is the asker's own."""

import copy
import unittest

from mirrorhouse.errors import NoHouse
from mirrorhouse.houses import check_house, pull, read_house, read_word, shown_house, turn_of

TURNS = [(2, 3, 5), (0, 1, 3), (1, 2, 0)]


class HandedIn(unittest.TestCase):
    def test_a_house_stays_as_it_was(self):
        house = (4, list(TURNS))
        before = copy.deepcopy(house)
        check_house(house)
        shown_house(house)
        read_word(house, "abcd")
        for i in range(4):
            for j in range(4):
                pull(house, i, j)
                if i != j:
                    turn_of(house, i, j)
        self.assertEqual(house, before)

    def test_a_refused_house_stays_as_it_was(self):
        house = (3, [(1, 2, 3), (0, 1, 3), (0, 1, 4)])
        before = copy.deepcopy(house)
        with self.assertRaises(NoHouse):
            check_house(house)
        self.assertEqual(house, before)

    def test_a_house_that_changes_is_looked_at_anew(self):
        house = (2, [(0, 1, 4)])
        self.assertEqual(turn_of(house, 0, 1), 4)
        self.assertEqual(pull(house, 0, 1), (-2, 0))
        self.assertEqual(shown_house(house), "2 ab4")
        house[1].clear()
        self.assertEqual(turn_of(house, 0, 1), 2)
        self.assertEqual(pull(house, 0, 1), (0, 0))
        self.assertEqual(shown_house(house), "2")
        house[1].append((0, 1, 1))
        with self.assertRaises(NoHouse):
            check_house(house)


class Told(unittest.TestCase):
    def test_what_the_asker_does_to_a_house_changes_nothing_told_later(self):
        for text in ("1", "3 ab3 bc5"):
            first = read_house(text)
            expected = copy.deepcopy(first)
            first[1].append((0, 2, 6))
            self.assertEqual(read_house(text), expected)

    def test_what_is_told_later_changes_nothing_told_before(self):
        first = read_house("3 ab3 bc5")
        second = read_house("3 ab3 bc5")
        other = read_house("4 cd*")
        second[1].clear()
        other[1].clear()
        self.assertEqual(first, (3, [(0, 1, 3), (1, 2, 5)]))


if __name__ == "__main__":
    unittest.main()
