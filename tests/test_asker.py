"""Point 2: what is handed in stays, what is told is the asker's own."""

import copy
import unittest

from mirrorhouse.desk import Desk
from mirrorhouse.errors import Endless, NoHouse, TooMany
from mirrorhouse.houses import check_house, pull, read_house, read_word, shown_house, turn_of
from mirrorhouse.kinds import counts, degrees, endless, kinds, size
from mirrorhouse.least import least, parted, same, turned
from mirrorhouse.papers import to_least, walked
from mirrorhouse.places import places
from mirrorhouse.rooms import below, split
from mirrorhouse.rows import images, is_above, is_below, led, mirrored, simple
from mirrorhouse.words import is_short, length, shortened

TURNS = [(2, 3, 5), (0, 1, 3), (1, 2, 0)]
WORD = (3, 2, 3, 0, 0, 1, 0, 1, 3)
ROW = ((3, -2), (0, 0), (-1, 1), (7, 5))
PAPER = [("drop", 3), ("turn", 3, 1, 0), ("drop", 0)]


def or_refusal(question, *handed):
    """What is told, or the refusal and what it keeps: both are told things."""
    try:
        return question(*handed)
    except (Endless, TooMany) as error:
        return type(error), getattr(error, "mirrors", None)



# Everything that is told of a house, a word, a row and a paper.
QUESTIONS = [
    lambda house, word, row, paper: simple(house, 2),
    lambda house, word, row, paper: mirrored(house, 2, row),
    lambda house, word, row, paper: led(house, word, row),
    lambda house, word, row, paper: images(house, word),
    lambda house, word, row, paper: is_above(row),
    lambda house, word, row, paper: is_below(row),
    lambda house, word, row, paper: is_short(house, word),
    lambda house, word, row, paper: shortened(house, word),
    lambda house, word, row, paper: length(house, word),
    lambda house, word, row, paper: least(house, word),
    lambda house, word, row, paper: same(house, word, word[1:]),
    lambda house, word, row, paper: parted(house, word, word[1:]),
    lambda house, word, row, paper: turned(house, word),
    lambda house, word, row, paper: turned(house, word[:3]),
    lambda house, word, row, paper: to_least(house, word),
    lambda house, word, row, paper: walked(house, word, paper[:2]),
    lambda house, word, row, paper: walked(house, word, paper),
    lambda house, word, row, paper: kinds(house),
    lambda house, word, row, paper: or_refusal(degrees, house),
    lambda house, word, row, paper: or_refusal(size, house),
    lambda house, word, row, paper: or_refusal(counts, house),
    lambda house, word, row, paper: endless(house),
    lambda house, word, row, paper: or_refusal(places, house, 400),
    lambda house, word, row, paper: split(house, word, [3, 0]),
    lambda house, word, row, paper: below(house, word[:3], word),
    lambda house, word, row, paper: below(house, word, word[:3]),
]
LISTS = [
    lambda: images((3, [(0, 1, 3)]), ()),
    lambda: images((3, [(0, 1, 3)]), (0, 1)),
    lambda: shortened((3, [(0, 1, 3)]), (0, 0))[1],
    lambda: shortened((3, [(0, 1, 3)]), (0, 1))[1],
    lambda: turned((3, [(0, 1, 3)]), ()),
    lambda: turned((3, [(0, 1, 3)]), (0, 1)),
    lambda: turned((3, [(0, 1, 3)]), (0, 1, 0, 1)),
    lambda: to_least((3, [(0, 1, 3)]), ()),
    lambda: to_least((3, [(0, 1, 3)]), (1, 0, 1, 2, 2)),
    lambda: kinds((3, [(0, 1, 3)])),
    lambda: kinds((3, [(0, 1, 3)]))[0][0],
    lambda: kinds((3, [(0, 1, 0)]))[1][0],
    lambda: degrees((3, [(0, 1, 3)])),
    lambda: degrees((4, [(0, 1, 3), (1, 2, 4), (2, 3, 3)])),
    lambda: degrees((3, [(0, 1, 3), (1, 2, 5)])),
    lambda: counts((3, [(0, 1, 3)])),
    lambda: counts((1, [])),
    lambda: or_refusal(counts, (3, [(0, 1, 0)]))[1],
    lambda: places((3, [(0, 1, 3)]), 12),
    lambda: places((1, []), 2),
    lambda: below((3, [(0, 1, 3)]), (), (0, 1)),
    lambda: below((3, [(0, 1, 3)]), (0, 1), (0, 1)),
]


class HandedIn(unittest.TestCase):
    def test_a_house_stays_as_it_was(self):
        house = (4, list(TURNS))
        before = copy.deepcopy(house)
        check_house(house)
        shown_house(house)
        read_word(house, "abcd")
        for i in range(4):
            for j in range(4):
                pull(house, i, j)
                if i != j:
                    turn_of(house, i, j)
        self.assertEqual(house, before)

    def test_a_refused_house_stays_as_it_was(self):
        house = (3, [(1, 2, 3), (0, 1, 3), (0, 1, 4)])
        before = copy.deepcopy(house)
        with self.assertRaises(NoHouse):
            check_house(house)
        self.assertEqual(house, before)

    def test_a_house_that_changes_is_looked_at_anew(self):
        house = (2, [(0, 1, 4)])
        self.assertEqual(turn_of(house, 0, 1), 4)
        self.assertEqual(pull(house, 0, 1), (-2, 0))
        self.assertEqual(shown_house(house), "2 ab4")
        house[1].clear()
        self.assertEqual(turn_of(house, 0, 1), 2)
        self.assertEqual(pull(house, 0, 1), (0, 0))
        self.assertEqual(shown_house(house), "2")
        house[1].append((0, 1, 1))
        with self.assertRaises(NoHouse):
            check_house(house)

    def test_what_every_question_is_handed_stays_as_it_was(self):
        for number, question in enumerate(QUESTIONS):
            with self.subTest(number=number):
                handed = ((4, list(TURNS)), WORD, ROW, list(PAPER))
                before = copy.deepcopy(handed)
                question(*handed)
                self.assertEqual(handed, before)

    def test_what_is_told_stays_when_the_house_changes(self):
        for number, question in enumerate(QUESTIONS):
            with self.subTest(number=number):
                house = (4, list(TURNS))
                paper = list(PAPER)
                told = question(house, WORD, ROW, paper)
                before = copy.deepcopy(told)
                house[1].clear()
                paper.clear()
                self.assertEqual(told, before)

    def test_each_question_looks_at_the_house_anew(self):
        for number, question in enumerate(QUESTIONS):
            with self.subTest(number=number):
                house = (4, [(0, 1, 4), (1, 2, 3)])
                question(house, WORD, ROW, list(PAPER))
                house[1].clear()
                house[1].extend(TURNS)
                expected = question((4, list(TURNS)), WORD, ROW, list(PAPER))
                self.assertEqual(question(house, WORD, ROW, list(PAPER)), expected)


class Told(unittest.TestCase):
    def test_what_the_asker_does_to_a_list_changes_nothing_told_later(self):
        for number, told in enumerate(LISTS):
            with self.subTest(number=number):
                first = told()
                second = told()
                expected = copy.deepcopy(first)
                first.append("the asker's own")
                self.assertEqual(second, expected)
                self.assertEqual(told(), expected)
                second.clear()
                self.assertEqual(told(), expected)
                self.assertEqual(first, expected + ["the asker's own"])

    def test_a_paper_handed_in_is_not_the_one_that_is_told(self):
        house = (3, [(0, 1, 3)])
        paper = to_least(house, (1, 0, 1))
        self.assertEqual(walked(house, (1, 0, 1), paper), (0, 1, 0))
        paper.clear()
        self.assertEqual(walked(house, (1, 0, 1), paper), (1, 0, 1))
        self.assertEqual(walked(house, (1, 0, 1), to_least(house, (1, 0, 1))), (0, 1, 0))

    def test_the_part_handed_to_split_stays_as_it_was(self):
        house = (4, list(TURNS))
        for part in ([], [3], [3, 0], [2, 0, 3, 1]):
            before = list(part)
            told = split(house, WORD, part)
            self.assertEqual(part, before)
            part.clear()
            self.assertEqual(split(house, WORD, before), told)

    def test_a_refusal_keeps_its_mirrors_when_the_house_changes(self):
        house = (3, [(1, 2, 0)])
        with self.assertRaises(Endless) as taken:
            size(house)
        house[1].clear()
        self.assertEqual(taken.exception.mirrors, [1, 2])
        self.assertEqual(size(house), 8)

    def test_what_a_desk_tells_stays(self):
        desk = Desk()
        rows = ("house 3 ab3 bc5", "kinds", "counts", "turns abc", "same a c", "least cba", "what", "house 9")
        first = [desk.say(row) for row in rows]
        self.assertEqual([desk.say(row) for row in rows], first)
        self.assertEqual([Desk().say(row) for row in rows[:1]], first[:1])

    def test_what_the_asker_does_to_a_house_changes_nothing_told_later(self):
        for text in ("1", "3 ab3 bc5"):
            first = read_house(text)
            expected = copy.deepcopy(first)
            first[1].append((0, 2, 6))
            self.assertEqual(read_house(text), expected)

    def test_what_is_told_later_changes_nothing_told_before(self):
        first = read_house("3 ab3 bc5")
        second = read_house("3 ab3 bc5")
        other = read_house("4 cd*")
        second[1].clear()
        other[1].clear()
        self.assertEqual(first, (3, [(0, 1, 3), (1, 2, 5)]))


if __name__ == "__main__":
    unittest.main()
