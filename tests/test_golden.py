"""Point 4: golden numbers."""

import decimal
import unittest

from mirrorhouse.golden import minus, plus, shown_number, sign, times

SMALL = [(a, b) for a in range(-7, 8) for b in range(-7, 8)]

# Parts of two hundred figures, and some beside them that are close or small.
HUGE = 10 ** 200 - 1
LONG = int("1234567890" * 20)
PARTS = [HUGE, -HUGE, LONG, -LONG, HUGE - 1, 10 ** 199, 3, -1, 0]
LARGE = [(a, b) for a in PARTS for b in PARTS]


def fibonacci(count):
    row = [0, 1]
    while len(row) < count:
        row.append(row[-1] + row[-2])
    return row


def as_matrix(x):
    # a + b g as a matrix, where g is ((0, 1), (1, 1)): this one's square is itself and one more.
    a, b = x
    return ((a, b), (b, a + b))


def matrix_product(m, n):
    return tuple(
        tuple(sum(m[r][k] * n[k][c] for k in range(2)) for c in range(2)) for r in range(2)
    )


def decimal_sign(x):
    with decimal.localcontext() as context:
        context.prec = 1000
        g = (1 + decimal.Decimal(5).sqrt()) / 2
        value = x[0] + x[1] * g
        return (value > 0) - (value < 0)


class Sums(unittest.TestCase):
    def test_ordinary_ones(self):
        self.assertEqual(plus((1, 2), (3, 4)), (4, 6))
        self.assertEqual(plus((3, -2), (-1, 1)), (2, -1))
        self.assertEqual(plus((0, 0), (5, -8)), (5, -8))
        self.assertEqual(plus((5, -8), (-5, 8)), (0, 0))

    def test_two_hundred_figures(self):
        self.assertEqual(plus((HUGE, -HUGE), (1, -1)), (10 ** 200, -(10 ** 200)))
        self.assertEqual(plus((-HUGE, LONG), (HUGE, 1)), (0, LONG + 1))

    def test_either_way(self):
        for x in LARGE:
            for y in SMALL[::7] + LARGE[::5]:
                self.assertEqual(plus(x, y), (x[0] + y[0], x[1] + y[1]))
                self.assertEqual(plus(y, x), plus(x, y))


class Products(unittest.TestCase):
    def test_g_times_g(self):
        self.assertEqual(times((0, 1), (0, 1)), (1, 1))

    def test_ordinary_ones(self):
        self.assertEqual(times((2, 3), (5, 7)), (31, 50))
        self.assertEqual(times((3, -2), (-1, 1)), (-5, 3))
        self.assertEqual(times((4, 0), (0, 1)), (0, 4))
        self.assertEqual(times((0, 0), (5, -8)), (0, 0))
        self.assertEqual(times((1, 0), (5, -8)), (5, -8))

    def test_small_ones_as_matrices(self):
        for x in SMALL:
            for y in SMALL[::3]:
                self.assertEqual(as_matrix(times(x, y)), matrix_product(as_matrix(x), as_matrix(y)))

    def test_two_hundred_figures_either_way(self):
        for x in LARGE:
            for y in SMALL[::7] + LARGE[::5]:
                self.assertEqual(as_matrix(times(x, y)), matrix_product(as_matrix(x), as_matrix(y)))
                self.assertEqual(times(y, x), times(x, y))

    def test_two_hundred_figures_just_so(self):
        self.assertEqual(times((HUGE, 0), (0, -HUGE)), (0, -(10 ** 400 - 2 * 10 ** 200 + 1)))
        self.assertEqual(times((0, 10 ** 199), (0, 10 ** 199)), (10 ** 398, 10 ** 398))


class Negatives(unittest.TestCase):
    def test_ordinary_ones(self):
        self.assertEqual(minus((3, -2)), (-3, 2))
        self.assertEqual(minus((0, 1)), (0, -1))
        self.assertEqual(minus((0, 0)), (0, 0))

    def test_sum_with_the_negative_is_nought(self):
        for x in SMALL + LARGE:
            self.assertEqual(plus(x, minus(x)), (0, 0))
            self.assertEqual(minus(minus(x)), x)

    def test_two_hundred_figures(self):
        self.assertEqual(minus((HUGE, -LONG)), (-HUGE, LONG))


class Kinds(unittest.TestCase):
    def test_all_that_is_told_is_a_tuple_of_two_whole_numbers(self):
        for told in (plus((1, 2), (3, 4)), times((1, 2), (3, 4)), minus((1, 2))):
            self.assertIs(type(told), tuple)
            self.assertEqual([type(part) for part in told], [int, int])

    def test_a_sign_is_a_whole_number(self):
        for x in SMALL:
            self.assertIs(type(sign(x)), int)


class Signs(unittest.TestCase):
    def test_nought(self):
        self.assertEqual(sign((0, 0)), 0)

    def test_ordinary_ones(self):
        above = [(1, 0), (0, 1), (2, 3), (2, -1), (-1, 1), (-3, 2), (5, -3)]
        for x in above:
            with self.subTest(x=x):
                self.assertEqual(sign(x), 1)
                self.assertEqual(sign(minus(x)), -1)

    def test_small_ones(self):
        for x in SMALL:
            with self.subTest(x=x):
                self.assertEqual(sign(x), decimal_sign(x))

    def test_two_hundred_figures(self):
        for x in LARGE:
            self.assertEqual(sign(x), decimal_sign(x))

    def test_neighbours_of_the_row(self):
        # The number is (1 - g) to the power of k, and 1 - g lies below nought: the signs alternate.
        row = fibonacci(958)
        self.assertEqual(len(str(row[-1])), 200)
        for k in range(len(row) - 1):
            expected = 1 if k % 2 == 0 else -1
            self.assertEqual(sign((row[k + 1], -row[k])), expected)
            self.assertEqual(sign((-row[k + 1], row[k])), -expected)

    def test_one_beside_the_neighbours_of_the_row(self):
        row = fibonacci(958)
        for k in list(range(1, 20)) + list(range(900, 957)):
            for beside in (-1, 0, 1):
                for x in ((row[k + 1] + beside, -row[k]), (-row[k + 1], row[k] + beside)):
                    self.assertEqual(sign(x), decimal_sign(x))


class Shown(unittest.TestCase):
    def check(self, x, text):
        self.assertEqual(shown_number(x), text)

    def test_nought(self):
        self.check((0, 0), "0")

    def test_whole_ones(self):
        self.check((1, 0), "1")
        self.check((-1, 0), "-1")
        self.check((17, 0), "17")
        self.check((-203, 0), "-203")

    def test_g_alone(self):
        self.check((0, 1), "g")
        self.check((0, -1), "-g")

    def test_b_g(self):
        self.check((0, 2), "2g")
        self.check((0, -2), "-2g")
        self.check((0, 10), "10g")
        self.check((0, -11), "-11g")

    def test_both_parts(self):
        self.check((3, -2), "3-2g")
        self.check((3, 2), "3+2g")
        self.check((-3, 2), "-3+2g")
        self.check((-3, -2), "-3-2g")
        self.check((1, 11), "1+11g")

    def test_one_g_beside_a_whole_one(self):
        self.check((-1, 1), "-1+g")
        self.check((3, 1), "3+g")
        self.check((3, -1), "3-g")
        self.check((-1, -1), "-1-g")

    def test_two_hundred_figures(self):
        nines = "9" * 200
        self.check((HUGE, 0), nines)
        self.check((0, -HUGE), f"-{nines}g")
        self.check((-HUGE, HUGE), f"-{nines}+{nines}g")


if __name__ == "__main__":
    unittest.main()
