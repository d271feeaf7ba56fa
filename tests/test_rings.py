import itertools
import unittest

from calls import Calls, listed, outcome, raised
from handshakes.errors import OtherPeople
from handshakes.exchanges import exchanged, exchanges, run
from handshakes.rings import distance, nearer, plan, rings, shows_plan
from shapes import (BENT, FAR, FLAT, arrangements, crosses, facing, from_pairs, many_arrangements, nested,
                    one_over_the_rest, same, shaped, shown, side_by_side, two_halves)

AROUND = (5, 2, 1, 4, 3, 0)


def steps_from(arrangement):
    """All that one exchange can make of it, by the definition: each exchange with its outcome."""
    pairs = [(a, b) for a, b in enumerate(arrangement) if a < b]
    found = {}
    for one, other in itertools.combinations(pairs, 2):
        a, b, c, d = sorted(one + other)
        rest = [pair for pair in pairs if pair not in (one, other)]
        for way in ([(a, b), (c, d)], [(a, d), (b, c)]):
            whole = rest + way
            if sorted(whole) != pairs and not any(crosses(x, y) for x, y in itertools.combinations(whole, 2)):
                found[(one[0], other[0])] = from_pairs(len(arrangement), whole)
    return found


def steps_between(people):
    """For every two arrangements the fewest exchanges between them, by going through all of them."""
    whole = arrangements(people)
    following = {one: sorted(steps_from(one).values()) for one in whole}
    found = {}
    for one in whole:
        found[one, one] = 0
        reached = [one]
        for at in reached:
            for other in following[at]:
                if (one, other) not in found:
                    found[one, other] = found[one, at] + 1
                    reached.append(other)
    return found


def joined_people(one, other):
    """The sets of people whom the arms of both join, found without following the arms."""
    groups = [{person} for person in range(len(one))]
    for a, b in list(enumerate(one)) + list(enumerate(other)):
        touched = [group for group in groups if a in group or b in group]
        groups = [group for group in groups if group not in touched] + [set().union(*touched)]
    return groups


def expected_rings(one, other):
    found = []
    for group in joined_people(one, other):
        ring = [min(group)]
        while len(ring) < len(group):
            ring.append((one if len(ring) % 2 else other)[ring[-1]])
        found.append(tuple(ring))
    return sorted(found)


class Examples(unittest.TestCase):
    def test_rings_and_distance(self):
        found = rings(FLAT, AROUND), rings(FLAT, BENT), distance(FLAT, AROUND), distance(FLAT, FLAT)
        self.assertTrue(same(found, ([(0, 1, 2, 3, 4, 5)], [(0, 1, 2, 3), (4, 5)], 2, 0)))

    def test_nearer_and_plan(self):
        found = nearer(FLAT, AROUND), nearer(FLAT, FLAT), plan(FLAT, BENT), shows_plan(FLAT, BENT, [(0, 2)])
        self.assertTrue(same(found, ([(0, 2), (0, 4), (2, 4)], [], [(0, 2)], True)))

    def test_other_people(self):
        self.assertEqual(outcome(rings, FLAT, (1, 0)), raised(OtherPeople))


class EveryTwoArrangementsOfFewPeople(unittest.TestCase):
    """All functions, by going through all arrangements of up to 10 people."""

    def test_all(self):
        for people in (0, 2, 4, 6, 8, 10):
            fewest = steps_between(people)
            self.assertEqual(len(fewest), len(arrangements(people)) ** 2)
            for (one, other), steps in fewest.items():
                self.check(one, other, steps, fewest)

    def check(self, one, other, steps, fewest):
        message = shown((one, other))
        self.assertTrue(same(rings(one, other), expected_rings(one, other)), message)
        self.assertTrue(same(distance(one, other), steps), message)
        outcomes = steps_from(one)
        self.assertEqual(sorted(outcomes), exchanges(one))
        nearest = sorted(step for step in outcomes if fewest[outcomes[step], other] == steps - 1)
        self.assertTrue(same(nearer(one, other), nearest), message)
        self.assertEqual(nearest == [], one == other)
        # Every exchange makes the distance greater or less by 1.
        self.assertEqual({abs(fewest[after, other] - steps) for after in outcomes.values()} - {1}, set())
        found = plan(one, other)
        self.assertIsInstance(found, list)
        self.assertEqual(len(found), steps)
        self.assertEqual(run(one, found), other)
        self.assertTrue(all(type(step) is tuple for step in found))
        self.assertIs(shows_plan(one, other, found), True)

    def test_for_each_one_at_the_greatest_distance(self):
        for people in (2, 4, 6, 8, 10):
            fewest = steps_between(people)
            for one in arrangements(people):
                found = [steps for pair, steps in fewest.items() if pair[0] == one]
                self.assertEqual(max(found), people // 2 - 1)


class EveryWayToCall(Calls, unittest.TestCase):
    def check(self, one, other):
        given = {"one": one, "other": other}
        expected = expected_rings(one, other)
        self.returns(rings, given, expected)
        self.returns(distance, given, len(one) // 2 - len(expected))
        self.returns(nearer, given, [step for step, after in sorted(steps_from(one).items())
                                     if len(expected_rings(after, other)) == len(expected) + 1])
        found = plan(one, other)
        self.returns(plan, given, found)
        self.assertEqual((run(one, found), len(found)), (other, len(one) // 2 - len(expected)))
        self.returns(shows_plan, {**given, "thing": found}, True)
        self.returns(shows_plan, {**given, "thing": []}, one == other)

    def test_few_people(self):
        for people in (0, 2, 4, 6):
            for one, other in itertools.product(arrangements(people), repeat=2):
                self.check(one, other)

    def test_many_people(self):
        for people in (12, 14, 22, 24, 26):
            for one, other in itertools.product(shaped(people), repeat=2):
                self.check(one, other)

    def test_many_arrangements_of_fourteen(self):
        whole = many_arrangements(14)
        for at in range(0, len(whole), 20):
            self.check(whole[at], whole[at * 7 % len(whole)])

    def test_nobody_and_two_people(self):
        for one, expected in (((), []), ((1, 0), [(0, 1)])):
            given = {"one": one, "other": one}
            self.returns(rings, given, expected)
            self.returns(distance, given, 0)
            self.returns(nearer, given, [])
            self.returns(plan, given, [])
            self.returns(shows_plan, {**given, "thing": []}, True)
            self.returns(shows_plan, {**given, "thing": [(0, 1)]}, False)
            self.returns(shows_plan, {**given, "thing": [(0, 0)]}, False)

    def test_equal_arrangements(self):
        for people in (6, 24):
            for one in shaped(people):
                given = {"one": one, "other": one}
                self.returns(rings, given, [(a, b) for a, b in enumerate(one) if a < b])
                self.returns(distance, given, 0)
                self.returns(nearer, given, [])
                self.returns(plan, given, [])

    def test_all_arms_less_one(self):
        flat = side_by_side(24)
        around = one_over_the_rest(24)
        given = {"one": flat, "other": around}
        self.returns(rings, given, [tuple(range(24))])
        self.returns(rings, {"one": around, "other": flat}, [(0,) + tuple(range(23, 0, -1))])
        self.returns(distance, given, 11)
        self.returns(nearer, given, exchanges(flat))
        self.assertEqual(len(plan(flat, around)), 11)
        self.assertEqual(run(flat, plan(flat, around)), around)

    def test_first_to_the_partner_in_one(self):
        self.returns(rings, {"one": BENT, "other": AROUND}, [(0, 3, 4, 5), (1, 2)])
        self.returns(rings, {"one": AROUND, "other": BENT}, [(0, 5, 4, 3), (1, 2)])
        self.returns(rings, {"one": BENT, "other": FLAT}, [(0, 3, 2, 1), (4, 5)])

    def test_returned_lists_are_new(self):
        for one, other in (((), ()), ((1, 0), (1, 0)), (FLAT, FLAT), (FLAT, BENT), (AROUND, FLAT),
                           (facing(24), two_halves(24)), (list(BENT), list(AROUND))):
            for function in (rings, nearer, plan):
                self.returns_new_lists(function, one, other)

    def test_arguments_are_not_held(self):
        one, other = list(FLAT), list(BENT)
        found = rings(one, other), nearer(one, other), plan(one, other)
        one[0] = other[0] = 99
        self.assertTrue(same(found, (rings(FLAT, BENT), nearer(FLAT, BENT), plan(FLAT, BENT))))


class OtherNumbersOfPeople(Calls, unittest.TestCase):
    DIFFERENT = (((), (1, 0)), ((1, 0), ()), ((1, 0), FLAT), (FLAT, (1, 0)), (BENT, facing(24)), (facing(24), BENT),
                 (facing(22), facing(24)), (facing(24), facing(26)), (side_by_side(4), side_by_side(2)))

    def test_all_functions(self):
        for one, other in self.DIFFERENT:
            given = {"one": one, "other": other}
            for function in (rings, distance, nearer, plan):
                self.raises(function, given, OtherPeople)

    def test_whatever_thing_is(self):
        for one, other in self.DIFFERENT:
            for thing in ([], (), None, 0, "x", [(0, 2)], [(9, 9)], [None], [(0, 2), "x"], ((0, 2),)):
                self.raises(shows_plan, {"one": one, "other": other, "thing": thing}, OtherPeople)


class ShowsPlan(Calls, unittest.TestCase):
    def judge(self, one, other, thing, expected):
        self.returns(shows_plan, {"one": one, "other": other, "thing": thing}, expected)

    def test_every_list_of_up_to_three_pairs(self):
        numbers = [(i, j) for i in range(4) for j in range(4)] + [(-1, 0), (0, 4), (-4, -2)]
        for one in arrangements(4):
            for many in range(4):
                for thing in itertools.product(numbers, repeat=many):
                    at = one
                    for step in thing:
                        at = at and steps_from(at).get(step)
                    for other in arrangements(4):
                        self.assertIs(shows_plan(one, other, list(thing)), at == other)

    def test_every_list_of_two_of_six_people(self):
        pairs = list(itertools.product(range(6), repeat=2))
        for one in arrangements(6):
            for first, second in itertools.product(pairs, repeat=2):
                between = steps_from(one).get(first)
                last = steps_from(between).get(second) if between else None
                for other in (FLAT, AROUND, facing(6)):
                    self.assertIs(shows_plan(one, other, [first, second]), last == other, shown((one, first, second)))

    def test_longer_than_the_shortest(self):
        self.judge(FLAT, BENT, [(0, 2), (0, 1), (0, 2)], True)
        self.judge(FLAT, BENT, [(0, 2), (0, 4), (0, 3)], True)
        self.judge(FLAT, FLAT, [(0, 2), (0, 1)], True)
        self.judge(FLAT, BENT, [(0, 2), (0, 1)], False)
        self.judge(FLAT, FLAT, [(0, 2), (0, 1), (0, 2)], False)

    def test_three_hundred_and_many_more(self):
        flat = side_by_side(24)
        for many in (300, 302, 5000):
            steps = [(0, 2), (0, 1)] * (many // 2)
            self.judge(flat, flat, steps, True)
            self.judge(flat, flat, steps + [(0, 2)], False)
            self.judge(flat, flat, steps + [(0, 1)], False)
            self.judge(flat, exchanged(flat, (4, 8)), steps + [(4, 8)], True)

    def test_impossible_steps(self):
        self.judge(BENT, BENT, [(1, 4)], False)
        self.judge(BENT, FLAT, [(1, 0)], False)
        self.judge(BENT, FLAT, [(0, 1)], True)
        self.judge(FLAT, BENT, [(2, 0)], False)
        self.judge(FLAT, FLAT, [(0, 0)], False)
        self.judge(FLAT, BENT, [(1, 3)], False)
        self.judge(FLAT, BENT, [(0, 3)], False)
        self.judge(FLAT, BENT, [(-6, -4)], False)
        self.judge(FLAT, BENT, [(0, 2 + FAR)], False)
        self.judge(FLAT, BENT, [(-FAR, 2)], False)
        self.judge(FLAT, BENT, [(0, 2), (9, 9)], False)
        self.judge(FLAT, BENT, [(0, 10 ** 5000)], False)

    def test_lists_and_tuples_are_not_the_same(self):
        self.judge(FLAT, BENT, [(0, 2)], True)
        self.judge(FLAT, BENT, ((0, 2),), False)
        self.judge(FLAT, BENT, [[0, 2]], False)
        self.judge(FLAT, BENT, ([0, 2],), False)
        self.judge(FLAT, BENT, (0, 2), False)
        self.judge(FLAT, BENT, [0, 2], False)
        self.judge(FLAT, FLAT, [], True)
        self.judge(FLAT, FLAT, (), False)
        self.judge((), (), [], True)
        self.judge((), (), (), False)

    def test_true_and_false_are_not_numbers(self):
        self.judge(FLAT, BENT, [(False, 2)], False)
        self.judge(BENT, FLAT, [(0, True)], False)
        self.judge(BENT, FLAT, [(False, True)], False)
        self.judge(facing(6), (5, 2, 1, 4, 3, 0), [(1, 2)], True)
        self.judge(facing(6), (5, 2, 1, 4, 3, 0), [(True, 2)], False)

    def test_values_of_every_kind(self):
        for thing in (0, 1, -1, FAR, True, False, None, "", "-", "0:2", "[(0, 2)]", (0,), [0], [None], [True], [""],
                      ["02"], [()], [[]], [(0,)], [(0, 2, 4)], [(0, "2")], [("0", 2)], [(0, None)], [(None, 2)],
                      [(None, None)], [((0, 2),)], [[(0, 2)]], [(0, (2,))], [(0, [2])], [((0,), 2)], [(0, 2), ()],
                      [(0, 2), None], [None, (0, 2)], [(0, 2), "0:2"], [(0, 2), 0], [(0, 2), [0, 1]],
                      [(0, 2), (0, 1), (0, 2, 0)], ([(0, 2)],), [[(0, 2)], [(0, 2)]], [(0, 2), False], [(True,)]):
            for one, other in ((FLAT, BENT), (FLAT, FLAT), ((), ()), ((1, 0), (1, 0)), (facing(24), two_halves(24))):
                self.judge(one, other, thing, False)

    def test_deep_values(self):
        for kind in (list, tuple):
            for levels in (2, 3, 14):
                deep = nested(0, levels, kind)
                self.judge(FLAT, BENT, nested((0, 2), levels, kind), False)
                self.judge(FLAT, BENT, [deep], False)
                self.judge(FLAT, BENT, [(deep, 2)], False)
                self.judge(FLAT, BENT, [(0, 2), deep], False)
                self.judge(FLAT, FLAT, deep, False)

    def test_lists_in_place_of_arrangements(self):
        self.assertIs(shows_plan(list(FLAT), list(FLAT), []), True)
        self.assertIs(shows_plan(FLAT, list(FLAT), []), True)
        self.assertIs(shows_plan(listed(FLAT), BENT, [(0, 2)]), True)


if __name__ == "__main__":
    unittest.main()
