"""Turned and mirrored arrangements, and how many look the same after turning."""

from handshakes.counting import choices, common_divisor
from handshakes.known import catalan


def turned(arrangement, seats):
    """The ARRANGEMENT after everybody goes on by so many seats, any number."""
    people = len(arrangement)
    partners = [0] * people
    for person, partner in enumerate(arrangement):
        partners[(person + seats) % people] = (partner + seats) % people
    return tuple(partners)


def mirrored(arrangement):
    """The ARRANGEMENT in which partners i and j become p - 1 - i and p - 1 - j."""
    last = len(arrangement) - 1
    return tuple([last - partner for partner in reversed(arrangement)])


def period(arrangement):
    """The least seats from 1 by which the turned ARRANGEMENT is the same."""
    seats = 1
    while turned(arrangement, seats) != tuple(arrangement):
        seats += 1
    return seats


def alike_many(people, seats):
    """How many ARRANGEMENTs of so many people are the same if turned by so many seats, any number."""
    if people == 0:
        return 1
    pairs = people // 2
    step = common_divisor(people, seats % people)
    parts = people // step
    if parts == 1:
        return catalan(pairs)
    if parts == 2:
        # An arm through the middle may stay as it is, so that half the people may be an odd number here.
        return choices(pairs, people // 4)
    if pairs % parts != 0:
        return 0
    return choices(step, step // 2)
