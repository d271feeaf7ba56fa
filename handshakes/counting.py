"""Whole numbers that other files count with."""


def common_divisor(one, other):
    """The greatest common divisor of two numbers from 0, not both 0."""
    while other != 0:
        one, other = other, one % other
    return one
