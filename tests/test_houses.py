"""Point 5 and check_house: houses, turns, pulls."""

import itertools
import unittest

from mirrorhouse.errors import NoHouse
from mirrorhouse.houses import check_house, pull, turn_of

SIXTY = 10 ** 60 - 1

# Every turn once; the mirrors b and c, and all others that aren't told, turn round by 2.
EVERY_TURN = (6, [(0, 1, 3), (0, 2, 4), (1, 3, 5), (2, 4, 6), (3, 5, 0)])

TURNS = {(0, 1): 3, (0, 2): 4, (1, 3): 5, (2, 4): 6, (3, 5): 0}

# For each turn the pull of the lesser mirror on the greater one, and of the greater on the lesser.
PULLS = {
    0: ((-2, 0), (-2, 0)),
    2: ((0, 0), (0, 0)),
    3: ((-1, 0), (-1, 0)),
    4: ((-2, 0), (-1, 0)),
    5: ((0, -1), (0, -1)),
    6: ((-3, 0), (-1, 0)),
}


class Turns(unittest.TestCase):
    def test_each_turn_in_either_order(self):
        for i, j in itertools.combinations(range(6), 2):
            with self.subTest(i=i, j=j):
                self.assertEqual(turn_of(EVERY_TURN, i, j), TURNS.get((i, j), 2))
                self.assertEqual(turn_of(EVERY_TURN, j, i), TURNS.get((i, j), 2))

    def test_turns_told_in_any_order(self):
        for turns in itertools.permutations(EVERY_TURN[1]):
            house = (6, list(turns))
            for i, j in itertools.permutations(range(6), 2):
                self.assertEqual(turn_of(house, i, j), turn_of(EVERY_TURN, i, j))

    def test_each_turn_in_a_house_of_two(self):
        for m in (0, 3, 4, 5, 6):
            self.assertEqual(turn_of((2, [(0, 1, m)]), 0, 1), m)
            self.assertEqual(turn_of((2, [(0, 1, m)]), 1, 0), m)
        self.assertEqual(turn_of((2, []), 0, 1), 2)
        self.assertEqual(turn_of((2, []), 1, 0), 2)


class Pulls(unittest.TestCase):
    def test_a_mirror_on_itself(self):
        for mirrors in range(1, 7):
            for i in range(mirrors):
                self.assertEqual(pull((mirrors, []), i, i), (2, 0))
        for i in range(6):
            self.assertEqual(pull(EVERY_TURN, i, i), (2, 0))

    def test_each_turn_in_a_house_of_two(self):
        for m in (0, 3, 4, 5, 6):
            with self.subTest(m=m):
                self.assertEqual(pull((2, [(0, 1, m)]), 0, 1), PULLS[m][0])
                self.assertEqual(pull((2, [(0, 1, m)]), 1, 0), PULLS[m][1])
        self.assertEqual(pull((2, []), 0, 1), (0, 0))
        self.assertEqual(pull((2, []), 1, 0), (0, 0))

    def test_each_mirror_on_each_other_one(self):
        for turns in itertools.permutations(EVERY_TURN[1]):
            house = (6, list(turns))
            for i, j in itertools.combinations(range(6), 2):
                self.assertEqual(pull(house, i, j), PULLS[TURNS.get((i, j), 2)][0])
                self.assertEqual(pull(house, j, i), PULLS[TURNS.get((i, j), 2)][1])

    def test_a_pull_is_a_golden_number(self):
        for i, j in itertools.product(range(6), repeat=2):
            told = pull(EVERY_TURN, i, j)
            self.assertIs(type(told), tuple)
            self.assertEqual([type(part) for part in told], [int, int])


class GoodHouses(unittest.TestCase):
    def test_one_to_six_mirrors(self):
        for mirrors in range(1, 7):
            self.assertIsNone(check_house((mirrors, [])))

    def test_every_turn(self):
        self.assertIsNone(check_house(EVERY_TURN))
        for m in (0, 3, 4, 5, 6):
            self.assertIsNone(check_house((2, [(0, 1, m)])))

    def test_all_pairs_in_any_order(self):
        for mirrors in range(1, 7):
            turns = [(i, j, 3 + i % 4) for i, j in itertools.combinations(range(mirrors), 2)]
            self.assertIsNone(check_house((mirrors, turns)))
            self.assertIsNone(check_house((mirrors, turns[::-1])))


class RefusedHouses(unittest.TestCase):
    def refused(self, house):
        with self.subTest(house=house):
            with self.assertRaises(NoHouse) as taken:
                check_house(house)
            self.assertIs(type(taken.exception), NoHouse)

    def test_how_many_mirrors(self):
        for mirrors in (0, 7, -1, -6, 10, SIXTY, -SIXTY):
            self.refused((mirrors, []))
        self.refused((7, [(0, 1, 3)]))
        self.refused((SIXTY, [(0, 1, 3)]))

    def test_no_mirror(self):
        for mirrors in range(1, 7):
            self.refused((mirrors, [(0, mirrors, 3)]))
            self.refused((mirrors, [(0, SIXTY, 3)]))
            self.refused((mirrors, [(-1, mirrors - 1, 3)]))
            self.refused((mirrors, [(-SIXTY, mirrors - 1, 3)]))
            self.refused((mirrors, [(mirrors, mirrors + 1, 3)]))
            self.refused((mirrors, [(-2, -1, 3)]))
            self.refused((mirrors, [(SIXTY - 1, SIXTY, 3)]))

    def test_not_less(self):
        self.refused((2, [(1, 0, 3)]))
        self.refused((3, [(0, 0, 3)]))
        self.refused((3, [(2, 2, 0)]))
        self.refused((6, [(5, 0, 4)]))

    def test_no_turn(self):
        for m in (1, 2, 7, 8, -1, -3, SIXTY, -SIXTY):
            self.refused((2, [(0, 1, m)]))

    def test_told_twice(self):
        self.refused((2, [(0, 1, 3), (0, 1, 3)]))
        self.refused((2, [(0, 1, 3), (0, 1, 0)]))
        self.refused((4, [(2, 3, 5), (0, 1, 3), (1, 2, 4), (2, 3, 6)]))

    def test_a_fault_behind_good_ones(self):
        good = [(i, j, 3) for i, j in itertools.combinations(range(6), 2)]
        for fault in ((0, 6, 3), (-1, 0, 3), (3, 3, 3), (5, 4, 3), (0, 1, 2), (0, 1, 3)):
            self.refused((6, good + [fault]))
            self.refused((6, [fault] + good))

    def test_forty_tuples(self):
        self.refused((6, [(0, 1, 3)] * 40))
        self.refused((6, [(SIXTY, -SIXTY, SIXTY)] * 40))


if __name__ == "__main__":
    unittest.main()
