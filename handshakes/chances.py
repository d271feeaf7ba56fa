"""Chances: how likely pairs are among the arrangements that fit the known pairs, as exact fractions.

As in known.py, a person whose partner is not known is their own partner in partners.
"""

from handshakes.counting import common_divisor
from handshakes.errors import Impossible, NoPerson
from handshakes.known import completions, evidence, joined, known_partners


def fraction(numerator, denominator):
    """The FRACTION in lowest terms."""
    divisor = common_divisor(numerator, denominator)
    return (numerator // divisor, denominator // divisor)


def fitting_partners(people, known):
    """The partners, as far as they are known; raises Impossible if no ARRANGEMENT fits."""
    reason = evidence(people, known)
    if reason is not None:
        raise Impossible(reason)
    return known_partners(people, known)


def check_person(people, person):
    """Raises NoPerson if this is the number of nobody."""
    if not 0 <= person < people:
        raise NoPerson(person)


def together_many(partners, one, other):
    """The number of fitting ARRANGEMENTs in which one and other shake hands."""
    if one == other:
        return 0
    if partners[one] == other:
        return completions(partners)
    if partners[one] != one or partners[other] != other:
        return 0
    return completions(joined(partners, one, other))


def pair_chance(people, known, one, other):
    """The FRACTION that two different people shake hands."""
    partners = fitting_partners(people, known)
    check_person(people, one)
    check_person(people, other)
    return fraction(together_many(partners, one, other), completions(partners))


def partner_chances(people, known, person):
    """The ascending list of the pairs (partner, FRACTION) for all who can be the person's partner."""
    partners = fitting_partners(people, known)
    check_person(people, person)
    whole = completions(partners)
    counts = [(other, together_many(partners, person, other)) for other in range(people)]
    return [(other, fraction(count, whole)) for other, count in counts if count > 0]


def counted_pairs(partners):
    """The ascending list of all pairs (a, b), a less than b, each with the number of its ARRANGEMENTs."""
    people = len(partners)
    pairs = [(a, b) for a in range(people) for b in range(a + 1, people)]
    return [((a, b), together_many(partners, a, b)) for a, b in pairs]


def sure_pairs(people, known):
    """The ascending list of the pairs that are arms in all fitting ARRANGEMENTs."""
    partners = fitting_partners(people, known)
    whole = completions(partners)
    return [pair for pair, count in counted_pairs(partners) if count == whole]


def possible_pairs(people, known):
    """The ascending list of the pairs that are arms in some fitting ARRANGEMENT."""
    partners = fitting_partners(people, known)
    return [pair for pair, count in counted_pairs(partners) if count > 0]


def neighbours(people):
    """The pairs of people who sit side by side, each once."""
    pairs = [(person, person + 1) for person in range(people - 1)]
    # Of two people, the first and the last are side by side already.
    if people > 2:
        pairs.append((0, people - 1))
    return pairs


def neighbour_mean(people, known):
    """The average number of arms between neighbours, a FRACTION."""
    partners = fitting_partners(people, known)
    total = sum([together_many(partners, a, b) for a, b in neighbours(people)])
    return fraction(total, completions(partners))
