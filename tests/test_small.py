import itertools
import unittest
from unittest import mock

from calls import Calls, outcome, raised
from handshakes.errors import OtherPeople, TooMany
from handshakes.exchanges import exchanged, exchanges
from handshakes.small import farthest, spheres, ways_many
from handshakes.turns import mirrored, turned
from shapes import BENT, FLAT, arrangements, facing, many_arrangements, one_over_the_rest, same, shaped, side_by_side

AROUND = (5, 2, 1, 4, 3, 0)


def steps_and_ways(one):
    """For every arrangement the fewest exchanges from one, and the number of shortest lists."""
    steps, ways = {one: 0}, {one: 1}
    reached = [one]
    for at in reached:
        for step in exchanges(at):
            other = exchanged(at, step)
            if other not in steps:
                steps[other], ways[other] = steps[at] + 1, 0
                reached.append(other)
            if steps[other] == steps[at] + 1:
                ways[other] += ways[at]
    return steps, ways


def expected_spheres(steps):
    return [list(steps.values()).count(far) for far in range(max(steps.values()) + 1)]


def expected_farthest(steps):
    return sorted(other for other in steps if steps[other] == max(steps.values()))


class Examples(unittest.TestCase):
    def test_all(self):
        found = spheres(FLAT), spheres(BENT), farthest(FLAT), ways_many(FLAT, AROUND), ways_many(FLAT, FLAT)
        self.assertTrue(same(found, ([1, 3, 1], [1, 2, 2], [(5, 2, 1, 4, 3, 0)], 3, 1)))


class FewPeople(Calls, unittest.TestCase):
    def test_every_arrangement_of_up_to_eight(self):
        for people in (0, 2, 4, 6, 8):
            for one in arrangements(people):
                steps, ways = steps_and_ways(one)
                self.returns(spheres, {"arrangement": one}, expected_spheres(steps))
                self.returns(farthest, {"arrangement": one}, expected_farthest(steps))
                for other in arrangements(people):
                    self.assertTrue(same(ways_many(one, other), ways[other]))

    def test_every_way_to_call(self):
        for one, other in itertools.product(arrangements(6), repeat=2):
            self.returns(ways_many, {"one": one, "other": other}, steps_and_ways(one)[1][other])

    def test_ten_and_twelve_people(self):
        for one in shaped(10) + shaped(12):
            steps, ways = steps_and_ways(one)
            self.returns(spheres, {"arrangement": one}, expected_spheres(steps))
            self.returns(farthest, {"arrangement": one}, expected_farthest(steps))
            for other in shaped(len(one)):
                self.assertEqual(ways_many(one, other), ways[other])

    def test_nobody_and_two_people(self):
        for one in ((), (1, 0)):
            self.returns(spheres, {"arrangement": one}, [1])
            self.returns(farthest, {"arrangement": one}, [one])
            self.returns(ways_many, {"one": one, "other": one}, 1)

    def test_twelve_people(self):
        self.assertEqual(sum(spheres(facing(12))), 132)
        self.assertEqual(len(spheres(facing(12))), 6)
        self.returns(farthest, {"arrangement": side_by_side(12)}, [one_over_the_rest(12)])
        # Each step of a shortest way merges two of the parts: 6 ** 4 ways, as many as there are trees on 6 points.
        self.returns(ways_many, {"one": side_by_side(12), "other": one_over_the_rest(12)}, 6 ** 4)

    def test_the_greatest_distance_is_the_arms_less_one(self):
        for people in (2, 4, 6, 8, 10):
            for one in arrangements(people):
                found = spheres(one)
                self.assertEqual(len(found), people // 2)
                self.assertEqual(found[0], 1)
                self.assertEqual(found[-1], len(farthest(one)))
                self.assertGreater(found[-1], 0)

    def test_turned_and_mirrored_tables_are_alike(self):
        for one in many_arrangements(10)[::7]:
            self.assertEqual(spheres(one), spheres(turned(one, 3)))
            self.assertEqual(spheres(one), spheres(mirrored(one)))

    def test_returned_lists_are_new(self):
        for one in ((), (1, 0), FLAT, BENT, list(BENT), facing(12)):
            self.returns_new_lists(spheres, one)
            self.returns_new_lists(farthest, one)


class TooManyPeople(Calls, unittest.TestCase):
    COUNTS = {14: 429, 16: 1430, 22: 58786, 24: 208012, 26: 742900, 60: 3814986502092304}

    def test_from_fourteen_people_on(self):
        for people, count in self.COUNTS.items():
            for one in shaped(people):
                self.raises(spheres, {"arrangement": one}, TooMany, many=count)
                self.raises(farthest, {"arrangement": one}, TooMany, many=count)
                self.raises(ways_many, {"one": one, "other": one}, TooMany, many=count)
                self.raises(ways_many, {"one": one, "other": facing(people)}, TooMany, many=count)

    def test_other_people_come_first(self):
        for one, other in (((), (1, 0)), ((1, 0), FLAT), (FLAT, facing(12)), (facing(12), facing(14)),
                           (facing(14), facing(12)), (facing(14), facing(16)), (facing(24), ()), (FLAT, facing(24))):
            self.raises(ways_many, {"one": one, "other": other}, OtherPeople)

    def test_exactly_most_is_not_too_many(self):
        for most, expected in ((14, True), (13, False)):
            with mock.patch("handshakes.small.MOST", most):
                for found in (outcome(spheres, facing(8)), outcome(farthest, facing(8)),
                              outcome(ways_many, facing(8), facing(8))):
                    self.assertEqual(found[0] == "returned", expected)
                    if not expected:
                        self.assertEqual(found, raised(TooMany, many=14))


if __name__ == "__main__":
    unittest.main()
