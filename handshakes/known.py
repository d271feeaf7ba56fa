"""Known pairs: the arrangements that have them as arms, counted and numbered, or why there is none.

Inside this file, partners is a list in which a person whose partner is not known is their own partner.
"""

from handshakes.arrangements import cross, is_arrangement, is_person, some_cross
from handshakes.errors import Impossible, NoNumber, OtherPeople, TooMany, Unfit
from handshakes.most import MOST


def is_pair(people, thing):
    """Whether thing is a pair (a, b) of so many people, a less than b."""
    if not isinstance(thing, tuple) or len(thing) != 2:
        return False
    a, b = thing
    return is_person(a, people) and is_person(b, people) and a < b


def is_known(people, thing):
    """Whether thing is KNOWN for so many people."""
    if not isinstance(thing, tuple) or not all([is_pair(people, pair) for pair in thing]):
        return False
    told = [person for pair in thing for person in pair]
    return len(set(told)) == len(told) and sorted(thing) == list(thing)


def fits(known, thing):
    """Whether thing is an ARRANGEMENT, of any number of people, with all known pairs as arms."""
    if not is_arrangement(thing):
        return False
    return all([b < len(thing) and thing[a] == b for a, b in known])


def known_partners(people, known):
    """The partners, as far as they are known."""
    partners = list(range(people))
    for a, b in known:
        partners[a] = b
        partners[b] = a
    return partners


def free_regions(partners):
    """The ascending list of the regions, where no known pairs cross."""
    # Free people are in the same region if the innermost known pair around them is the same; -1 is for none.
    around = [-1]
    found = {}
    for person, partner in enumerate(partners):
        if person < partner:
            around.append(person)
        elif person > partner:
            around.pop()
        else:
            found.setdefault(around[-1], []).append(person)
    return [tuple(region) for region in found.values()]


def crossing(known):
    """The evidence of the first two known pairs that cross, None if none do."""
    for at, one in enumerate(known):
        for other in known[at + 1:]:
            if cross(one, other):
                return ("cross", tuple(one), tuple(other))
    return None


def regions(people, known):
    """The ascending list of the regions."""
    reason = crossing(known)
    if reason is not None:
        raise Impossible(reason)
    return free_regions(known_partners(people, known))


def evidence(people, known):
    """Why no ARRANGEMENT fits, None if one does."""
    reason = crossing(known)
    if reason is not None:
        return reason
    for region in free_regions(known_partners(people, known)):
        if len(region) % 2 == 1:
            return ("odd", region)
    return None


def catalan(pairs):
    """C(pairs): the number of ARRANGEMENTs of so many pairs."""
    count = 1
    for k in range(1, pairs + 1):
        # C(k) is C(k - 1) * 2 * (2 k - 1) / (k + 1), always without a remainder.
        count = count * 2 * (2 * k - 1) // (k + 1)
    return count


def completions(partners):
    """The number of ARRANGEMENTs in which all known partners are partners."""
    if some_cross(partners):
        return 0
    count = 1
    for region in free_regions(partners):
        if len(region) % 2 == 1:
            return 0
        count *= catalan(len(region) // 2)
    return count


def many(people, known):
    """The number of ARRANGEMENTs that fit."""
    return completions(known_partners(people, known))


def joined(partners, one, other):
    """The partners, with one and other known to shake hands, too."""
    together = list(partners)
    together[one] = other
    together[other] = one
    return together


def later_free(partners, person):
    """The ascending list of the free people behind the person."""
    return [other for other in range(person + 1, len(partners)) if partners[other] == other]


def lesser_many(partners, person, partner):
    """The number of ARRANGEMENTs in which the first free person has a partner less than this one."""
    lesser = [other for other in later_free(partners, person) if other < partner]
    return sum([completions(joined(partners, person, other)) for other in lesser])


def partner_at(partners, person, number):
    """The first free person's partner in the ARRANGEMENT with that number, which there is."""
    behind = 0
    for other in later_free(partners, person):
        behind += completions(joined(partners, person, other))
        if number < behind:
            return other
    return None


def arrangement_at(people, known, number):
    """The fitting ARRANGEMENT with that number, counted from 0 in ascending order."""
    partners = known_partners(people, known)
    if not 0 <= number < completions(partners):
        raise NoNumber(number)
    left = number
    for person in range(people):
        if partners[person] == person:
            partner = partner_at(partners, person, left)
            left -= lesser_many(partners, person, partner)
            partners = joined(partners, person, partner)
    return tuple(partners)


def number_of(people, known, arrangement):
    """The number of a fitting ARRANGEMENT."""
    if len(arrangement) != people:
        raise OtherPeople()
    for a, b in known:
        if arrangement[a] != b:
            raise Unfit((a, b))
    partners = known_partners(people, known)
    number = 0
    for person in range(people):
        if partners[person] == person:
            number += lesser_many(partners, person, arrangement[person])
            partners = joined(partners, person, arrangement[person])
    return number


def all_arrangements(people, known):
    """The ascending list of the fitting ARRANGEMENTs."""
    count = many(people, known)
    if count > MOST:
        raise TooMany(count)
    return [arrangement_at(people, known, number) for number in range(count)]
