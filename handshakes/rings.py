"""Rings: the arms of two arrangements form them together, and their number tells the distance."""

from handshakes.arrangements import is_number
from handshakes.errors import Blocked, NoArm, OtherPeople
from handshakes.exchanges import exchanged, exchanges


def check_people(one, other):
    """Raises OtherPeople if two ARRANGEMENTs have different numbers of people."""
    if len(one) != len(other):
        raise OtherPeople()


def ring_of(one, other, person):
    """The ring of a person, from that person on, first to the partner in one."""
    ring = [person, one[person]]
    following = other[one[person]]
    while following != person:
        ring.extend([following, one[following]])
        following = other[one[following]]
    return tuple(ring)


def rings(one, other):
    """The ascending list of the rings that the arms of both form, each from its least person on."""
    check_people(one, other)
    found = []
    for person in range(len(one)):
        ring = ring_of(one, other, person)
        if min(ring) == person:
            found.append(ring)
    return found


def distance(one, other):
    """The number of EXCHANGEs in a shortest list that turns one into other."""
    return len(one) // 2 - len(rings(one, other))


def nearer(one, other):
    """The ascending list of the possible EXCHANGEs of one after which the distance is less by 1."""
    wanted = distance(one, other) - 1
    return [exchange for exchange in exchanges(one) if distance(exchanged(one, exchange), other) == wanted]


def plan(one, other):
    """A shortest list of EXCHANGEs that turns one into other."""
    steps = []
    partners = one
    for left in range(distance(one, other)):
        # Between different ARRANGEMENTs there is always an EXCHANGE that comes nearer.
        step = nearer(partners, other)[0]
        steps.append(step)
        partners = exchanged(partners, step)
    return steps


def is_number_pair(thing):
    """Whether thing is a pair of numbers."""
    return isinstance(thing, tuple) and len(thing) == 2 and is_number(thing[0]) and is_number(thing[1])


def shows_plan(one, other, thing):
    """Whether thing is a list of EXCHANGEs, each possible when its turn comes, that turns one into other."""
    check_people(one, other)
    if not isinstance(thing, list) or not all([is_number_pair(step) for step in thing]):
        return False
    partners = tuple(one)
    for step in thing:
        try:
            partners = exchanged(partners, step)
        except (NoArm, Blocked):
            return False
    return partners == tuple(other)
