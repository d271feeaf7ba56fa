"""Whole numbers that other files count with."""


def common_divisor(one, other):
    """The greatest common divisor of two numbers from 0, not both 0."""
    while other != 0:
        one, other = other, one % other
    return one


def choices(things, chosen):
    """The number of ways to choose so many of so many things."""
    count = 1
    for k in range(1, chosen + 1):
        # So far this is the number of ways to choose k of things - chosen + k: never a remainder.
        count = count * (things - chosen + k) // k
    return count
