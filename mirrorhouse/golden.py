"""Golden numbers: a tuple (a, b) of whole numbers stands for a + b g, where g times g is g + 1."""


def plus(x, y):
    return (x[0] + y[0], x[1] + y[1])


def times(x, y):
    both = x[1] * y[1]
    return (x[0] * y[0] + both, x[0] * y[1] + x[1] * y[0] + both)


def minus(x):
    return (-x[0], -x[1])


def whole_sign(number):
    if number > 0:
        return 1
    if number < 0:
        return -1
    return 0


def sign(x):
    whole = whole_sign(x[0])
    golden = whole_sign(x[1])
    if whole * golden >= 0:
        return whole_sign(whole + golden)
    # The other root of g g = g + 1, 1 - g, lies below nought, so a + b (1 - g) has the sign of a
    # where a and b have unlike signs. The product of both is whole, and tells the sign exactly.
    product = x[0] * x[0] + x[0] * x[1] - x[1] * x[1]
    return whole * whole_sign(product)


def shown_golden_part(number):
    if number == 1:
        return "g"
    if number == -1:
        return "-g"
    return f"{number}g"


def shown_number(x):
    if x[1] == 0:
        return str(x[0])
    golden = shown_golden_part(x[1])
    if x[0] == 0:
        return golden
    between = "+" if x[1] > 0 else ""
    return str(x[0]) + between + golden
