import copy
import itertools
import unittest

from handshakes.arrangements import arms, cross, is_arrangement
from shapes import (BENT, FAR, FLAT, crosses, facing, fits_definition, from_pairs, nested,
                    pairings, same, shaped, shown, side_by_side)


class Examples(unittest.TestCase):
    def test_is_arrangement(self):
        found = (is_arrangement((3, 2, 1, 0)), is_arrangement((2, 3, 0, 1)),
                 is_arrangement(()), is_arrangement((1, 0, 2)))
        self.assertEqual(found, (True, False, True, False))

    def test_arms_and_cross(self):
        found = arms((3, 2, 1, 0, 5, 4)), cross((0, 2), (3, 1)), cross((0, 3), (1, 2))
        self.assertEqual(found, ([(0, 3), (1, 2), (4, 5)], True, False))


class IsArrangement(unittest.TestCase):
    def judge(self, thing, expected):
        before = copy.deepcopy(thing)
        self.assertIs(is_arrangement(thing), expected, shown(thing))
        self.assertTrue(same(thing, before), shown(before))

    def test_by_name(self):
        self.assertIs(is_arrangement(thing=(1, 0)), True)
        self.assertIs(is_arrangement(thing=[1, 0]), False)

    def test_every_small_tuple_of_numbers(self):
        for people in range(6):
            for partners in itertools.product(range(-1, people + 1), repeat=people):
                self.judge(partners, fits_definition(partners))

    def test_every_pairing(self):
        catalan = {0: 1, 2: 1, 4: 2, 6: 5, 8: 14, 10: 42}
        for people in catalan:
            found = 0
            for partners in pairings(people):
                self.judge(partners, fits_definition(partners))
                found += is_arrangement(partners)
            self.assertEqual(found, catalan[people])

    def test_up_to_the_bound_and_beyond(self):
        for people in list(range(0, 25, 2)) + [26, 100, 302, 5000]:
            for partners in shaped(people):
                self.judge(partners, True)
                self.judge(list(partners), False)

    def test_odd_numbers_of_people(self):
        for people in range(1, 26, 2):
            self.judge(side_by_side(people - 1) + (people - 1,), False)
            self.judge(side_by_side(people + 1)[:-1], False)
            self.judge(facing(people), False)

    def test_one_item_changed(self):
        others = [True, False, None, "", "0", "1", "a", (), [], (0,), [0], (1, 0), [1, 0], FAR, -FAR]
        for people in (2, 4, 6, 24, 30):
            for partners in shaped(people):
                for at in range(people):
                    numbers = [n for n in range(-people - 1, people + 2) if n != partners[at]]
                    for other in numbers + others:
                        self.judge(partners[:at] + (other,) + partners[at + 1:], False)

    def test_a_bool_is_not_its_number(self):
        for thing in ((True, 0), (1, False), (True, False), (True, 0, 3, 2), (3, 2, True, 0), (3, 2, 1, False)):
            self.judge(thing, False)

    def test_other_lengths(self):
        for people in (2, 4, 6, 24):
            for partners in shaped(people):
                self.judge(partners[:-1], False)
                self.judge(partners[1:], False)
                self.judge(partners + (people,), False)
                self.judge(partners + (0,), False)
                self.judge(partners + (people + 1, people), True)
                self.judge(partners + partners, False)

    def test_crossing_pairs_in_larger_ones(self):
        for people in (4, 6, 12, 24, 40):
            half = people // 2
            self.judge(tuple((i + half) % people for i in range(people)), False)
        for start in range(0, 21):
            pairs = [(start, start + 2), (start + 1, start + 3)]
            rest = [i for i in range(24) if not start <= i <= start + 3]
            pairs += list(zip(rest[::2], rest[1::2]))
            self.judge(from_pairs(24, pairs), False)
        self.judge(from_pairs(24, [(0, 12), (1, 23)] + [(i, i + 1) for i in range(2, 12, 2)]
                              + [(i, i + 1) for i in range(13, 23, 2)]), False)

    def test_own_partner(self):
        for thing in ((0,), (0, 1), (1, 0, 2), (0, 2, 1), (3, 1, 2, 0), (2, 1, 0), (0, 2, 1, 3)):
            self.judge(thing, False)
        self.judge(tuple(range(24)), False)

    def test_numbers_of_nobody(self):
        for thing in ((-1, 0), (-1, -2), (1, -2), (2, 1), (1, 2), (-1, -2, -3, -4), (-4, -3, -2, -1),
                      (3, 2, 1, -4), (-1, 2, 1, 0), (FAR, 0), (1, FAR), (-FAR, 0)):
            self.judge(thing, False)

    def test_values_of_every_kind(self):
        for thing in (0, 1, -1, 6, FAR, -FAR, 10 ** 5000, True, False, None, "", "10", "1 0", "()", "(1, 0)",
                      [], [1, 0], [[1, 0]], [(1, 0)], ["1", "0"], ("1", "0"), ("10",), ((1, 0),), ([1, 0],),
                      ((),), ([],), (None,), (None, None), (True,), ("",), (1, None), ("1", 0), ((1,), (0,)),
                      ([1], [0]), ((1, 0), (1, 0)), ([], []), (1, [0]), [1, None, "a", (True, [False])],
                      (10 ** 5000, 0), (1, -10 ** 5000)):
            self.judge(thing, False)

    def test_deep_values(self):
        for inner in (0, True, None, "a", (), [], (1, 0), [1, 0]):
            for kind in (list, tuple):
                for levels in (1, 2, 14):
                    deep = nested(inner, levels, kind)
                    self.judge(deep, False)
                    self.judge((deep, 0), False)
                    self.judge((1, deep), False)
                    self.judge([1, deep], False)


class Arms(unittest.TestCase):
    def test_by_name_and_position(self):
        self.assertEqual(arms(FLAT), [(0, 1), (2, 3), (4, 5)])
        self.assertEqual(arms(arrangement=BENT), [(0, 3), (1, 2), (4, 5)])

    def test_nobody(self):
        self.assertEqual(arms(()), [])
        self.assertEqual(arms([]), [])

    def test_every_pairing_crossing_or_not(self):
        for people in (0, 2, 4, 6, 8):
            for partners in pairings(people):
                expected = sorted({(min(pair), max(pair)) for pair in enumerate(partners)})
                for given in (partners, list(partners)):
                    found = arms(given)
                    self.assertEqual(found, expected)
                    self.assertIsInstance(found, list)
                    self.assertTrue(all(isinstance(arm, tuple) for arm in found))

    def test_crossing(self):
        self.assertEqual(arms((2, 3, 0, 1)), [(0, 2), (1, 3)])
        self.assertEqual(arms([3, 4, 5, 0, 1, 2]), [(0, 3), (1, 4), (2, 5)])

    def test_own_partners_have_no_arm(self):
        self.assertEqual(arms((0,)), [])
        self.assertEqual(arms((1, 0, 2)), [(0, 1)])
        self.assertEqual(arms((3, 1, 2, 0)), [(0, 3)])

    def test_many_people(self):
        for people in (22, 24, 26, 1000):
            self.assertEqual(arms(side_by_side(people)), [(i, i + 1) for i in range(0, people, 2)])
            self.assertEqual(arms(facing(people)), [(i, people - 1 - i) for i in range(people // 2)])

    def test_a_changed_result_changes_nothing_else(self):
        found = arms(BENT)
        found.append((6, 7))
        found[0] = None
        self.assertEqual(arms(BENT), [(0, 3), (1, 2), (4, 5)])
        empty = arms(())
        empty.append(1)
        self.assertEqual(arms(()), [])

    def test_the_argument_does_not_change(self):
        given = list(BENT)
        arms(given)
        self.assertEqual(given, list(BENT))


class Cross(unittest.TestCase):
    def judge(self, one, other, expected):
        for first in (tuple(one), list(one)):
            for second in (tuple(other), list(other)):
                self.assertIs(cross(first, second), expected, shown((first, second)))
                self.assertEqual((list(first), list(second)), (list(one), list(other)))

    def test_by_name(self):
        self.assertIs(cross(one=(0, 2), other=(1, 3)), True)
        self.assertIs(cross(other=(1, 3), one=(0, 2)), True)
        self.assertIs(cross(one=(0, 1), other=(2, 3)), False)

    def test_every_order_of_four_numbers(self):
        for a, b, c, d in itertools.permutations(range(-3, 4), 4):
            self.judge((a, b), (c, d), crosses((a, b), (c, d)))

    def test_the_three_ways_to_pair_four(self):
        for a, b, c, d in ((0, 1, 2, 3), (0, 7, 11, 23), (-9, -5, -4, -1), (-FAR, -1, 0, FAR),
                           (FAR, FAR + 1, FAR + 2, FAR + 3), (-1, 0, 1, 10 ** 5000)):
            for one, other, expected in (((a, c), (b, d), True), ((a, b), (c, d), False), ((a, d), (b, c), False)):
                for x, y in ((one, other), (other, one)):
                    for first in (x, x[::-1]):
                        for second in (y, y[::-1]):
                            self.judge(first, second, expected)


if __name__ == "__main__":
    unittest.main()
