"""Numbers' terms and their values."""

SIGNS = ("+", "*", ":", "<")
WRAP = 1000000


def is_number(term):
    """Whether a part is a number's term, by its form."""
    return term[0] in ("num", "count", "op")


def reckoned(sign, one, other):
    if sign == "+":
        return (one + other) % WRAP
    if sign == "*":
        return (one * other) % WRAP
    if sign == ":":
        return one if other == 0 else one % other
    return 1 if one < other else 0


def value_of(number, counts):
    """The value of a number's term, the dict telling what each name stands for."""
    if number[0] == "num":
        return number[1]
    if number[0] == "count":
        return counts[number[1]]
    return reckoned(number[1], value_of(number[2], counts), value_of(number[3], counts))
