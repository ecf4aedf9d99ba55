"""Fractions as they are answered."""


def common_divisor(one, other):
    """The greatest number that divides both, which are not below 0 and not both 0."""
    while other > 0:
        rest = one % other
        one = other
        other = rest
    return one


def common_multiple(one, other):
    """The least number that both, which are above 0, divide."""
    return one // common_divisor(one, other) * other


def lowest_terms(above, below):
    """The fraction above / below as [numerator, denominator]; below is greater than 0."""
    divisor = common_divisor(abs(above), below)
    return [above // divisor, below // divisor]
