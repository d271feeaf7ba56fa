"""Exchanges: two pairs exchange partners, and no arms cross afterwards."""

from handshakes.arrangements import arms, some_cross
from handshakes.errors import Blocked, NoArm


def is_lesser(arrangement, person):
    """Whether this number, maybe nobody's, is the lesser person of an arm."""
    return 0 <= person < len(arrangement) and person < arrangement[person]


def swapped(arrangement, i, j):
    """The partners after the arms of the lesser people i and j are replaced, possible or not."""
    a, b, c, d = sorted([i, j, arrangement[i], arrangement[j]])
    partners = list(arrangement)
    if arrangement[a] == b:
        partners[a], partners[d], partners[b], partners[c] = d, a, c, b
    else:
        partners[a], partners[b], partners[c], partners[d] = b, a, d, c
    return tuple(partners)


def exchanges(arrangement):
    """The ascending list of the possible EXCHANGEs."""
    lesser = [low for low, high in arms(arrangement)]
    pairs = [(i, j) for i in lesser for j in lesser if i < j]
    return [(i, j) for i, j in pairs if not some_cross(swapped(arrangement, i, j))]


def exchanged(arrangement, exchange):
    """The ARRANGEMENT after the EXCHANGE."""
    i, j = exchange
    for person in (i, j):
        if not is_lesser(arrangement, person):
            raise NoArm(person)
    if i >= j:
        raise Blocked((i, j))
    partners = swapped(arrangement, i, j)
    if some_cross(partners):
        raise Blocked((i, j))
    return partners


def run(arrangement, some):
    """The ARRANGEMENT after a list of pairs, exchanged one after another."""
    partners = tuple(arrangement)
    for exchange in some:
        partners = exchanged(partners, exchange)
    return partners
