"""The desk: each kind of row, its answer, and what is answered to a row that is none."""

import itertools
import unittest

from helpers import (
    CHOICE, KIND_HOUSES, LETTERS, NEARLY, Swaps, house_of, some_words, table_images, table_mirrored, table_simple,
    without_pairs, word_of,
)
from mirrorhouse.desk import Desk
from mirrorhouse.houses import shown_house, shown_word
from mirrorhouse.kinds import counts, endless, kinds, size
from mirrorhouse.least import least, parted, turned
from mirrorhouse.rooms import below
from mirrorhouse.words import is_short, length

SIGNS = [chr(code) for code in range(32, 127) if chr(code) != "%"]
OF_ONE = ("least", "short", "length", "turns")
OF_TWO = ("same", "below")
OF_NONE = ("kinds", "size", "counts")

# Rows that together tell which house a desk keeps.
ASK_THE_HOUSE = ("kinds", "size", "counts", "least dcba", "turns ba", "length abab", "same ab ba", "least f")


def desk_with(text):
    desk = Desk()
    desk.say(f"house {text}")
    return desk


def told_number(a, b):
    golden = {1: "g", -1: "-g"}.get(b, f"{b}g")
    if b == 0:
        return str(a)
    if a == 0:
        return golden
    return str(a) + ("+" if b > 0 else "") + golden


class DeskCase(unittest.TestCase):
    def said(self, desk, *rows_and_answers):
        for row, answer in rows_and_answers:
            with self.subTest(row=row):
                told = desk.say(row)
                self.assertIs(type(told), str)
                self.assertEqual(told, answer)

    def unchanged_by(self, desk, row, answer):
        """The row is answered so, and the desk keeps the house that it kept."""
        before = [desk.say(other) for other in ASK_THE_HOUSE]
        self.said(desk, (row, answer))
        with self.subTest(row=row):
            self.assertEqual([desk.say(other) for other in ASK_THE_HOUSE], before)


class AtTheBeginning(DeskCase):
    def test_one_mirror(self):
        self.said(
            Desk(), ("kinds", "a1"), ("size", "2"), ("counts", "1 1"), ("least a", "a"), ("least aa", "1"),
            ("least 1", "1"), ("short a", "yes"), ("short aa", "no"), ("length aaa", "1"), ("turns a", "1"),
            ("turns aa", "none"), ("turns 1", "none"), ("same a aaa", "yes"), ("same 1 a", "no a"),
            ("below 1 a", "yes"), ("below a 1", "no"), ("below a a", "yes"), ("least b", "no word"),
            ("same a b", "no word"),
        )

    def test_each_row_as_the_first_one(self):
        for row, answer in (
            ("kinds", "a1"), ("size", "2"), ("counts", "1 1"), ("least aaa", "a"), ("below 1 1", "yes"),
            ("least b", "no word"), ("house", "what"), ("house 2 ab3", "ok"), ("house 2 bb3", "no house"),
        ):
            self.said(Desk(), (row, answer))


class Houses(DeskCase):
    def test_ok(self):
        desk = Desk()
        self.said(
            desk, ("house 3 ab3 bc5", "ok"), ("kinds", "h3"), ("house 2", "ok"), ("kinds", "a1 a1"),
            ("house 4 cd* ab4", "ok"), ("kinds", "b2 -"), ("house 1", "ok"), ("kinds", "a1"),
        )

    def test_any_order(self):
        self.said(Desk(), ("house 3 bc5 ab3", "ok"), ("kinds", "h3"), ("least cbab", "acba"))

    def test_no_text(self):
        desk = desk_with("4 ab3 bc5")
        for rest in ("", " ", "0", "7", "a", "33", "3 ", " 3", "3  ab3", "3 ab3 ", "3 ab", "3 ab2", "3 ag3", "3 ab33",
                     "3 Ab3", "ab3", "3,ab3", "3 ba3 ", "3 aa3 x", "house 3", "x" * 1990):
            self.unchanged_by(desk, f"house {rest}", "no text")

    def test_no_house(self):
        desk = desk_with("4 ab3 bc5")
        for rest in ("1 ab3", "2 bc3", "3 ba3", "3 aa3", "3 ab3 ab3", "3 ab3 bc3 ab*", "3 ab3 ba3", "5 af*",
                     "6" + " ab3" * 490):
            self.unchanged_by(desk, f"house {rest}", "no house")

    def test_without_a_rest(self):
        self.unchanged_by(desk_with("4 ab3 bc5"), "house", "what")
        self.unchanged_by(Desk(), "house", "what")


class OneWord(DeskCase):
    def test_least(self):
        self.said(
            desk_with("3 ab3 bc5"), ("least bab", "aba"), ("least ca", "ac"), ("least 1", "1"), ("least cc", "1"),
            ("least cbcbc", "bcbcb"), ("least abab", "ba"), ("least a", "a"),
        )

    def test_short(self):
        self.said(
            desk_with("3 ab3 bc5"), ("short bab", "yes"), ("short abab", "no"), ("short 1", "yes"), ("short cc", "no"),
            ("short cbcbc", "yes"), ("short cbcbcb", "no"),
        )

    def test_length(self):
        self.said(
            desk_with("3 ab3 bc5"), ("length bab", "3"), ("length abab", "2"), ("length 1", "0"), ("length cc", "0"),
            ("length abcabcabcabcabc", "15"), ("length abcabcabcabcabcabc", "12"),
        )

    def test_turns(self):
        self.said(
            desk_with("3 ab3 bc5"), ("turns 1", "none"), ("turns aa", "none"), ("turns a", "1,0,0"),
            ("turns c", "0,0,1"), ("turns ba", "1,0,0 1,1,0"), ("turns bc", "0,0,1 0,1,g"), ("turns cb", "0,1,0 0,g,1"),
            ("turns abc", "0,0,1 0,1,g 1,1,g"), ("turns bcb", "0,1,0 0,g,1 0,g,g"), ("turns cbc", "0,0,1 0,1,g 0,g,g"),
            ("turns bcbc", "0,0,1 0,1,g 0,g,g 0,g,1"), ("turns abab", "1,0,0 1,1,0"),
            ("turns ac", "0,0,1 1,0,0"), ("turns ca", "1,0,0 0,0,1"),
        )
        self.said(desk_with("2 ab6"), ("turns ab", "0,1 1,1"), ("turns ba", "1,0 3,1"))
        self.said(desk_with("2 ab*"), ("turns abab", "0,1 1,2 2,3 3,4"))
        self.said(desk_with("3 ab5 bc5"), ("turns abc", "0,0,1 0,1,g 1,g,1+g"))

    def test_the_rows_of_a_short_word_from_behind(self):
        for house in CHOICE:
            desk = desk_with(shown_house(house))
            for word in some_words(house, 6, 20, 1):
                short = word if is_short(house, word) else least(house, word)
                rows = []
                for place in range(len(short) - 1, -1, -1):
                    row = table_simple(house, short[place])
                    # Led by the signs behind it, the next one first.
                    for mirror in short[place + 1:]:
                        row = table_mirrored(house, mirror, row)
                    rows.append(",".join(told_number(*number) for number in row))
                self.said(desk, ("turns " + shown_word(word), " ".join(rows) or "none"))

    def test_refused(self):
        for text in ("1", "3 ab3 bc5", "2 ab*"):
            desk = desk_with(text)
            for word in OF_ONE:
                for rest in ("", " ", "  ", "a ", " a", "a b", "a  b", "1 1", "g", "A", "11", "1a", "a1", "0", "a,b",
                             "fg", "f1", "-", "x" * 1990, "f f"):
                    self.unchanged_by(desk, f"{word} {rest}", "no text")
                for rest in ("f", "af", "fa", "abdab", "d", "ffffffffffffffffffff"):
                    self.unchanged_by(desk, f"{word} {rest}", "no word")

    def test_without_a_rest(self):
        for word in OF_ONE:
            self.unchanged_by(desk_with("2 ab3"), word, "what")

    def test_every_sign_as_a_word(self):
        desk = desk_with("3 ab3 bc5")
        for sign in SIGNS:
            answer = sign if sign in "abc1" else "no word" if sign in "def" else "no text"
            self.said(desk, (f"least {sign}", answer))


class TwoWords(DeskCase):
    def test_same(self):
        self.said(
            desk_with("3 ab3 bc5"), ("same aba bab", "yes"), ("same 1 1", "yes"), ("same 1 aa", "yes"),
            ("same a b", "no a"), ("same 1 c", "no b"), ("same ac ca", "yes"), ("same a a", "yes"),
            ("same a ac", "no b"),
        )
        self.said(desk_with("3 ab3"), ("same ab abc", "no c"), ("same c 1", "no c"), ("same b 1", "no a"))
        self.said(desk_with("6"), ("same abcde abcdef", "no f"), ("same 1 e", "no e"), ("same d 1", "no d"))

    def test_below(self):
        self.said(
            desk_with("3 ab3 bc5"), ("below 1 1", "yes"), ("below 1 abc", "yes"), ("below abc 1", "no"),
            ("below aa 1", "yes"), ("below b abab", "yes"), ("below ab ba", "no"), ("below ca abc", "yes"),
            ("below cb abc", "no"), ("below bab aba", "yes"), ("below a b", "no"), ("below ba bacb", "yes"),
        )

    def test_the_first_that_is_refused(self):
        for text in ("2 ab3", "2 ab*"):
            desk = desk_with(text)
            for word in OF_TWO:
                for rest, answer in (
                    ("x a", "no text"), ("a x", "no text"), ("c a", "no word"), ("a c", "no word"), ("x c", "no text"),
                    ("c x", "no word"), ("c 1a", "no word"), ("1a c", "no text"), ("c c", "no word"),
                    ("x x", "no text"), ("c ", "no word"), (" c", "no text"), (" ", "no text"), ("a ", "no text"),
                    (" a", "no text"), ("cx a", "no text"), ("a cx", "no text"), ("f 11", "no word"),
                    ("11 f", "no text"),
                ):
                    self.unchanged_by(desk, f"{word} {rest}", answer)

    def test_one_piece_or_three(self):
        desk = desk_with("2 ab3")
        for word in OF_TWO:
            for rest in ("", "a", "x", "c", "1", "a b a", "a  b", " a b", "a b ", "  ", "   ", "x y z", "c c c", "  a",
                         "a  ", "a b  ", "a b a b"):
                self.unchanged_by(desk, f"{word} {rest}", "what")
            self.unchanged_by(desk, word, "what")


class NoWords(DeskCase):
    def test_written_out(self):
        for text, answers in (
            ("1", ("a1", "2", "1 1")),
            ("3", ("a1 a1 a1", "8", "1 3 3 1")),
            ("2 ab6", ("i6", "12", "1 2 2 2 2 2 1")),
            ("3 ac4", ("b2 a1", "16", "1 3 4 4 3 1")),
            ("3 ab3 bc5", ("h3", "120", "1 3 5 7 9 11 12 12 12 12 11 9 7 5 3 1")),
            ("2 ab*", ("-", "never", "never")),
            ("5 ae* bc3", ("- a2 a1", "never", "never")),
            ("6 ab3 ce* df*", ("a2 - -", "never", "never")),
            ("3 ab3 bc3 ac3", ("-", "never", "never")),
        ):
            self.said(desk_with(text), *zip(OF_NONE, answers))

    def test_each_kind(self):
        for kind, house in KIND_HOUSES.items():
            desk = desk_with(shown_house(house))
            many = " ".join(str(number) for number in counts(house))
            self.said(desk, ("kinds", kind), ("size", str(size(house))), ("counts", many))

    def test_never_ending_parts(self):
        for house in NEARLY:
            self.said(desk_with(shown_house(house)), ("kinds", "-"), ("size", "never"), ("counts", "never"))

    def test_with_a_rest(self):
        for text in ("3 ab3 bc5", "2 ab*"):
            desk = desk_with(text)
            for word, rest in itertools.product(OF_NONE, ("", " ", "a", "1", "kinds", "a b")):
                self.unchanged_by(desk, f"{word} {rest}", "what")


class OtherRows(DeskCase):
    def test_what(self):
        for text in ("1", "4 ab3 bc5", "2 ab*"):
            desk = desk_with(text)
            for row in (
                "", " ", "  ", "   ", "what", "ok", "1", "a", "help", "no text", "least,a", "leasta", "LEAST a",
                "Least a", " least a", " kinds", "  size", " house 2", "house,2", "house2", "kind", "sizes", "count",
                "kinds,", "shorts a", "shortened a", "turn a", "turned a", "places", "places 5", "degrees", "endless",
                "split a b", "to_least a", "parted a b", "a least", "2 ab3", "x" * 2000, " " * 2000, "~", "-", "*",
                "desk", "say kinds", "KINDS", "Size", "COUNTS", "HOUSE 2", "House 2", "Same a a", "BELOW a a",
            ):
                self.unchanged_by(desk, row, "what")

    def test_every_sign(self):
        desk = desk_with("2 ab3")
        for sign in SIGNS:
            self.said(desk, (sign, "what"), (sign + " ", "what"), (sign + " a", "what"))
            self.said(desk, ("least" + sign, "no text" if sign == " " else "what"))


class SideBySide(DeskCase):
    def test_two_desks(self):
        one, other = Desk(), Desk()
        self.said(one, ("house 2 ab3", "ok"))
        self.said(other, ("kinds", "a1"), ("house 3 ab* bc3", "ok"), ("size", "never"))
        self.said(one, ("kinds", "a2"), ("least bab", "aba"), ("least c", "no word"))
        self.said(other, ("least bab", "bab"), ("least ca", "ac"), ("house 3 x", "no text"))
        self.said(one, ("house 1", "ok"), ("least b", "no word"))
        self.said(other, ("least b", "b"), ("kinds", "-"))
        self.said(Desk(), ("kinds", "a1"), ("least b", "no word"))

    def test_a_new_desk_begins_anew(self):
        for text in ("6", "2 ab*", "3 ab3 bc3"):
            self.said(desk_with(text), ("least ba", "ab" if text == "6" else "ba"))
            self.said(Desk(), ("counts", "1 1"), ("least ba", "no word"))


class AgainstTheFunctions(DeskCase):
    def expected(self, house, word, other):
        mirror = parted(house, word, other)
        first, second = shown_word(word), shown_word(other)
        return (
            (f"least {first}", shown_word(least(house, word))), (f"length {first}", str(length(house, word))),
            (f"short {first}", "yes" if is_short(house, word) else "no"),
            (f"same {first} {second}", "yes" if mirror is None else "no " + LETTERS[mirror]),
            (f"below {first} {second}", "no" if below(house, word, other) is None else "yes"),
            (f"below {second} {first}", "no" if below(house, other, word) is None else "yes"),
        )

    def test_every_row_in_every_house(self):
        for house in CHOICE:
            desk = Desk()
            never = endless(house) is not None
            self.said(
                desk, ("house " + shown_house(house), "ok"), ("kinds", " ".join(kind for _, kind in kinds(house))),
                ("size", "never" if never else str(size(house))),
                ("counts", "never" if never else " ".join(str(number) for number in counts(house))),
            )
            words = some_words(house, 6, 20, 2)
            for word, other in itertools.product(words, words[:3]):
                self.said(desk, *self.expected(house, word, other))
                told = desk.say("turns " + shown_word(word))
                self.assertEqual(0 if told == "none" else len(told.split(" ")), len(turned(house, word)))

    def test_twenty_signs(self):
        for chain in (Swaps(3, False), Swaps(4, True)):
            desk = desk_with(shown_house(chain.house))
            for word in some_words(chain.house, 60, 20, 3):
                word = (word * 20)[:20]
                self.said(desk, ("least " + shown_word(word), shown_word(chain.least(word))))
                self.said(desk, ("length " + shown_word(word), str(len(chain.least(word)))))
        never = house_of("3 ab* ac* bc*")
        desk = desk_with(shown_house(never))
        for word in some_words(never, 60, 20, 4):
            self.said(desk, ("least " + shown_word(word), shown_word(without_pairs(word))))

    def test_the_same_by_the_table(self):
        for house in CHOICE[::3]:
            desk = desk_with(shown_house(house))
            for one, other in itertools.combinations(some_words(house, 8, 5, 5), 2):
                alike = table_images(house, one) == table_images(house, other)
                told = desk.say(f"same {shown_word(one)} {shown_word(other)}")
                self.assertEqual(told == "yes", alike)
                if not alike:
                    mirror = word_of(told[3:])[0]
                    self.assertNotEqual(table_images(house, one)[mirror], table_images(house, other)[mirror])
                    self.assertEqual(table_images(house, one)[:mirror], table_images(house, other)[:mirror])


if __name__ == "__main__":
    unittest.main()
