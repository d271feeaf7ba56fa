"""Arrangements: who shakes hands with whom, and whether arms cross."""


def is_number(thing):
    """Whether thing is a number; True and False, which Python counts as integers, are not."""
    return isinstance(thing, int) and not isinstance(thing, bool)


def is_person(thing, people):
    """Whether thing is the number of one of so many people."""
    return is_number(thing) and 0 <= thing < people


def all_paired(partners):
    """Whether everybody has a partner, not themselves, whose partner they are."""
    for person, partner in enumerate(partners):
        if not is_person(partner, len(partners)):
            return False
        if partner == person or partners[partner] != person:
            return False
    return True


def some_cross(partners):
    """Whether two of the pairs cross, where everybody is the partner of their partner, maybe their own."""
    # Without crossing, an arm ends only when all that began after it have ended.
    begun = []
    for person, partner in enumerate(partners):
        if person < partner:
            begun.append(person)
        elif person > partner and begun.pop() != partner:
            return True
    return False


def is_arrangement(thing):
    """Whether thing is an ARRANGEMENT."""
    if not isinstance(thing, tuple):
        return False
    return all_paired(thing) and not some_cross(thing)


def arms(arrangement):
    """The ascending list of the arms, also of an arrangement in which arms cross."""
    return [(person, partner) for person, partner in enumerate(arrangement) if person < partner]


def cross(one, other):
    """Whether two pairs of four different numbers cross."""
    low, high = sorted(one)
    first, second = other
    return (low < first < high) != (low < second < high)
