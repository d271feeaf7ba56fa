"""Arrangements and other values for the tests, made from the definitions."""

import itertools

FLAT = (1, 0, 3, 2, 5, 4)
BENT = (3, 2, 1, 0, 5, 4)
FAR = 10 ** 30


def pairings(people):
    """All tuples in which everybody is the partner of their partner, nobody their own."""
    for matching in matchings(list(range(people))):
        yield from_pairs(people, matching)


def matchings(people):
    if not people:
        yield []
        return
    first = people[0]
    for other in people[1:]:
        rest = [person for person in people if person not in (first, other)]
        for matching in matchings(rest):
            yield [(first, other)] + matching


def from_pairs(people, pairs):
    partners = [None] * people
    for a, b in pairs:
        partners[a], partners[b] = b, a
    return tuple(partners)


def crosses(one, other):
    """The definition of crossing, word by word."""
    between = [person for person in other if min(one) < person < max(one)]
    return len(between) == 1


def fits_definition(partners):
    """The definition of an arrangement, for a tuple of numbers."""
    people = range(len(partners))
    if any(partner not in people for partner in partners):
        return False
    if any(partners[partners[i]] != i or partners[i] == i for i in people):
        return False
    pairs = [(i, partners[i]) for i in people if i < partners[i]]
    return not any(crosses(one, other) for one, other in itertools.combinations(pairs, 2))


def arrangements(people):
    """The ascending list of all arrangements, by the definition."""
    return sorted(partners for partners in pairings(people) if fits_definition(partners))


def many_arrangements(people):
    """The ascending list of all arrangements, for more people than can be paired in every way."""
    if not people:
        return [()]
    found = []
    for partner in range(1, people, 2):
        for inner in many_arrangements(partner - 1):
            for outer in many_arrangements(people - partner - 1):
                found.append((partner,) + tuple(i + 1 for i in inner) + (0,)
                             + tuple(i + partner + 1 for i in outer))
    return sorted(found)


def all_known(people):
    """Every KNOWN of so many people, those that cross included."""
    return sorted(tuple(pairs) for pairs in partial_matchings(list(range(people))))


def partial_matchings(people):
    if not people:
        yield []
        return
    first, rest = people[0], people[1:]
    yield from partial_matchings(rest)
    for other in rest:
        for matching in partial_matchings([person for person in rest if person != other]):
            yield [(first, other)] + matching


def partitions(things):
    """All ways to part the things into groups."""
    if not things:
        yield []
        return
    first, rest = things[0], things[1:]
    for groups in partitions(rest):
        yield [(first,)] + groups
        for at in range(len(groups)):
            yield groups[:at] + [(first,) + groups[at]] + groups[at + 1:]


def side_by_side(people):
    return tuple(i + 1 if i % 2 == 0 else i - 1 for i in range(people))


def facing(people):
    return tuple(people - 1 - i for i in range(people))


def one_over_the_rest(people):
    """The first and the last person shake hands, the others side by side."""
    inner = side_by_side(people - 2)
    return (people - 1,) + tuple(partner + 1 for partner in inner) + (0,)


def two_halves(people):
    """Facing one another in each of two groups."""
    half = people // 4 * 2
    return facing(half) + tuple(partner + half for partner in facing(people - half))


def shaped(people):
    """Arrangements of different shapes, of so many people."""
    if not people:
        return [()]
    return [side_by_side(people), facing(people), one_over_the_rest(people), two_halves(people)]


def nested(value, levels, kind):
    """The value inside so many lists or tuples."""
    for level in range(levels):
        value = kind([value])
    return value


def same(one, other):
    """Whether two values are equal and of the same kinds at every depth (True is not 1)."""
    if type(one) is not type(other):
        return False
    if isinstance(one, (list, tuple)):
        return len(one) == len(other) and all(same(x, y) for x, y in zip(one, other))
    return one == other


def shown(value):
    """The value for a message; Python does not write out the longest numbers."""
    try:
        return repr(value)[:200]
    except ValueError:
        return "a value with a very long number"
