"""Few people: arrangements at all distances, gone through one by one."""

from handshakes.errors import TooMany
from handshakes.exchanges import exchanged
from handshakes.known import all_arrangements, many
from handshakes.most import MOST
from handshakes.rings import check_people, distance, nearer


def check_few(people):
    """Raises TooMany if there are too many ARRANGEMENTs of so many people to go through them."""
    count = many(people, ())
    if count > MOST:
        raise TooMany(count)


def greatest_distance(people):
    """The greatest distance between two ARRANGEMENTs of so many people."""
    return max(people // 2 - 1, 0)


def spheres(arrangement):
    """The list of the numbers of ARRANGEMENTs at the distances 0, 1, 2, .., up to the greatest."""
    people = len(arrangement)
    check_few(people)
    counts = [0] * (greatest_distance(people) + 1)
    for other in all_arrangements(people, ()):
        counts[distance(arrangement, other)] += 1
    return counts


def farthest(arrangement):
    """The ascending list of the ARRANGEMENTs at the greatest distance."""
    people = len(arrangement)
    check_few(people)
    greatest = greatest_distance(people)
    return [other for other in all_arrangements(people, ()) if distance(arrangement, other) == greatest]


def one_step_nearer(ways, goal):
    """The ways to all ARRANGEMENTs one step nearer to the goal, from those to the ARRANGEMENTs before."""
    after = {}
    for partners, count in ways.items():
        for step in nearer(partners, goal):
            following = exchanged(partners, step)
            after[following] = after.get(following, 0) + count
    return after


def ways_many(one, other):
    """How many shortest lists of EXCHANGEs turn one into other."""
    check_people(one, other)
    check_few(len(one))
    ways = {tuple(one): 1}
    for left in range(distance(one, other)):
        ways = one_step_nearer(ways, other)
    return ways[tuple(other)]
