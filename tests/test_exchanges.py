import itertools
import unittest

from calls import Calls, outcome, raised
from handshakes.arrangements import arms
from handshakes.errors import Blocked, NoArm
from handshakes.exchanges import exchanged, exchanges, run
from shapes import (BENT, FAR, FLAT, arrangements, crosses, facing, fits_definition, from_pairs, one_over_the_rest,
                    same, shaped, shown, side_by_side)


def after(arrangement, i, j):
    """The partners after the exchange, by the definition: the other pairing of the four that does not cross."""
    pairs = [(a, b) for a, b in enumerate(arrangement) if a < b]
    one = (i, arrangement[i])
    other = (j, arrangement[j])
    a, b, c, d = sorted(one + other)
    ways = [way for way in ([(a, b), (c, d)], [(a, c), (b, d)], [(a, d), (b, c)])
            if not crosses(*way) and sorted(way) != sorted([one, other])]
    assert len(ways) == 1
    return from_pairs(len(arrangement), [pair for pair in pairs if pair not in (one, other)] + ways[0])


def expected_of(arrangement, i, j):
    """The outcome that the document asks for."""
    lesser = [a for a, b in enumerate(arrangement) if a < b]
    if i not in lesser:
        return raised(NoArm, person=i)
    if j not in lesser:
        return raised(NoArm, person=j)
    if i >= j or not fits_definition(after(arrangement, i, j)):
        return raised(Blocked, pair=(i, j))
    return ("returned", after(arrangement, i, j))


class Examples(unittest.TestCase):
    def test_exchanges(self):
        found = exchanges(FLAT), exchanges(BENT), exchanged(FLAT, (0, 2)), run(FLAT, [(0, 2), (0, 4)])
        self.assertTrue(same(found, ([(0, 2), (0, 4), (2, 4)], [(0, 1), (0, 4)], (3, 2, 1, 0, 5, 4),
                                     (5, 2, 1, 4, 3, 0))))

    def test_blocked(self):
        self.assertEqual(outcome(exchanged, BENT, (1, 4)), raised(Blocked, pair=(1, 4)))

    def test_no_arm(self):
        self.assertEqual(outcome(exchanged, BENT, (0, 2)), raised(NoArm, person=2))


class Exchanges(Calls, unittest.TestCase):
    def test_nobody_and_two_people(self):
        self.returns(exchanges, {"arrangement": ()}, [])
        self.returns(exchanges, {"arrangement": (1, 0)}, [])

    def test_four_people(self):
        self.returns(exchanges, {"arrangement": (1, 0, 3, 2)}, [(0, 2)])
        self.returns(exchanges, {"arrangement": (3, 2, 1, 0)}, [(0, 1)])

    def test_every_small_arrangement(self):
        for people in (0, 2, 4, 6, 8, 10):
            for arrangement in arrangements(people):
                expected = [(i, j) for i in range(people) for j in range(people)
                            if expected_of(arrangement, i, j)[0] == "returned"]
                self.returns(exchanges, {"arrangement": arrangement}, expected)

    def test_many_people(self):
        for people in (22, 24, 26, 40):
            lesser = list(range(0, people, 2))
            self.returns(exchanges, {"arrangement": side_by_side(people)}, list(itertools.combinations(lesser, 2)))
            self.returns(exchanges, {"arrangement": facing(people)}, [(i, i + 1) for i in range(people // 2 - 1)])
            inner = list(range(1, people - 1, 2))
            self.returns(exchanges, {"arrangement": one_over_the_rest(people)},
                         [(0, i) for i in inner] + list(itertools.combinations(inner, 2)))

    def test_returned_lists_are_new(self):
        for arrangement in ((), (1, 0), FLAT, BENT, side_by_side(24)):
            self.returns_new_lists(exchanges, arrangement)
            self.returns_new_lists(exchanges, list(arrangement))


class Exchanged(Calls, unittest.TestCase):
    def test_every_pair_of_every_small_arrangement(self):
        for people in (0, 2, 4, 6, 8):
            for arrangement in arrangements(people):
                for i, j in itertools.product(range(-people - 1, people + 2), repeat=2):
                    found = outcome(exchanged, arrangement, (i, j))
                    self.assertTrue(same(found, expected_of(arrangement, i, j)), shown((arrangement, i, j)))

    def test_every_pair_of_many_people(self):
        for arrangement in shaped(24) + shaped(28):
            for i, j in itertools.product(range(-2, len(arrangement) + 2), repeat=2):
                found = outcome(exchanged, arrangement, (i, j))
                self.assertTrue(same(found, expected_of(arrangement, i, j)), shown((arrangement, i, j)))

    def test_every_way_to_call(self):
        for arrangement in arrangements(6):
            for i, j in itertools.product(range(-1, 7), repeat=2):
                self.expect(exchanged, {"arrangement": arrangement, "exchange": (i, j)},
                            expected_of(arrangement, i, j))

    def test_both_directions(self):
        self.returns(exchanged, {"arrangement": (1, 0, 3, 2), "exchange": (0, 2)}, (3, 2, 1, 0))
        self.returns(exchanged, {"arrangement": (3, 2, 1, 0), "exchange": (0, 1)}, (1, 0, 3, 2))

    def test_nobody(self):
        for i, j in ((0, 0), (0, 1), (-1, 0), (1, 0), (FAR, 0)):
            self.raises(exchanged, {"arrangement": (), "exchange": (i, j)}, NoArm, person=i)

    def test_the_first_reason_counts(self):
        for i, j, person in ((1, 3, 1), (3, 1, 3), (1, 1, 1), (1, 0, 1), (0, 1, 1), (4, 1, 1), (2, 0, 2), (-1, 9, -1),
                             (9, -1, 9), (0, -6, -6), (-6, 0, -6), (4, 5, 5), (4, -3, -3), (5, 4, 5), (4, 6, 6),
                             (FAR, -FAR, FAR), (0, FAR, FAR), (0, -FAR, -FAR), (-FAR, -FAR, -FAR)):
            arrangement = FLAT if (i, j) in ((1, 3), (3, 1), (1, 1), (1, 0), (0, 1), (4, 1)) else BENT
            self.raises(exchanged, {"arrangement": arrangement, "exchange": (i, j)}, NoArm, person=person)

    def test_not_in_order_is_blocked(self):
        for i, j in ((0, 0), (2, 2), (4, 4), (2, 0), (4, 0), (4, 2)):
            self.raises(exchanged, {"arrangement": FLAT, "exchange": (i, j)}, Blocked, pair=(i, j))
        self.raises(exchanged, {"arrangement": (1, 0), "exchange": (0, 0)}, Blocked, pair=(0, 0))

    def test_an_arm_between_blocks(self):
        self.raises(exchanged, {"arrangement": facing(6), "exchange": (0, 2)}, Blocked, pair=(0, 2))
        self.raises(exchanged, {"arrangement": facing(24), "exchange": (0, 11)}, Blocked, pair=(0, 11))
        self.raises(exchanged, {"arrangement": (3, 2, 1, 0, 7, 6, 5, 4), "exchange": (1, 5)}, Blocked, pair=(1, 5))


class Run(Calls, unittest.TestCase):
    def test_no_exchange(self):
        for arrangement in [(), (1, 0), FLAT, BENT] + shaped(24):
            self.returns(run, {"arrangement": arrangement, "some": []}, arrangement)

    def test_one_after_another(self):
        self.returns(run, {"arrangement": FLAT, "some": [(0, 2), (0, 4), (1, 3)]}, (5, 4, 3, 2, 1, 0))
        self.returns(run, {"arrangement": FLAT, "some": [(0, 2), (0, 1)]}, FLAT)

    def test_lists_of_two_of_every_small_arrangement(self):
        for arrangement in arrangements(6):
            for first, second in itertools.product(itertools.product(range(6), repeat=2), repeat=2):
                expected = expected_of(arrangement, *first)
                if expected[0] == "returned":
                    expected = expected_of(expected[1], *second)
                found = outcome(run, arrangement, [first, second])
                self.assertTrue(same(found, expected), shown((arrangement, first, second)))

    def test_the_first_that_fails(self):
        given = {"arrangement": FLAT, "some": [(0, 2), (1, 4), (9, 9)]}
        self.raises(run, given, Blocked, pair=(1, 4))
        given = {"arrangement": FLAT, "some": [(0, 2), (9, -9), (1, 4)]}
        self.raises(run, given, NoArm, person=9)
        given = {"arrangement": FLAT, "some": [(0, 2), (2, 4)]}
        self.raises(run, given, NoArm, person=2)
        given = {"arrangement": FLAT, "some": [(2, 0), (0, 2)]}
        self.raises(run, given, Blocked, pair=(2, 0))
        self.raises(run, {"arrangement": (), "some": [(0, 1)]}, NoArm, person=0)

    def test_three_hundred_and_more(self):
        for many in (299, 300, 301, 2000):
            some = [(0, 2), (0, 1)] * (many // 2) + [(2, 4)] * (many % 2)
            expected = exchanged(side_by_side(24), (2, 4)) if many % 2 else side_by_side(24)
            self.returns(run, {"arrangement": side_by_side(24), "some": some}, expected)
        self.raises(run, {"arrangement": side_by_side(24), "some": [(0, 2), (0, 1)] * 150 + [(1, 0)]}, NoArm, person=1)

    def test_a_long_way(self):
        arrangement = side_by_side(24)
        some = []
        for step in range(300):
            possible = exchanges(arrangement)
            some.append(possible[step * 7 % len(possible)])
            arrangement = after(arrangement, *some[-1])
            self.assertTrue(fits_definition(arrangement))
        self.returns(run, {"arrangement": side_by_side(24), "some": some}, arrangement)
        self.assertEqual(len(arms(arrangement)), 12)


if __name__ == "__main__":
    unittest.main()
