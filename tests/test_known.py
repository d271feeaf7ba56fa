import itertools
import unittest
from unittest import mock

from calls import Calls, listed, outcome, raised
from handshakes.errors import Impossible, NoNumber, OtherPeople, TooMany, Unfit
from handshakes.known import (all_arrangements, arrangement_at, evidence, fits, is_known, many, number_of, regions)
from handshakes.most import MOST
from shapes import (BENT, FAR, FLAT, all_known, arrangements, crosses, facing, fits_definition, many_arrangements,
                    nested, same, shaped, shown, side_by_side)

CATALAN = [1, 1, 2, 5, 14, 42, 132, 429, 1430, 4862, 16796, 58786, 208012, 742900]
ALL_PAIRS = tuple((i, i + 1) for i in range(0, 24, 2))


def has(arrangement, known):
    """Whether all known pairs are arms."""
    return all(b < len(arrangement) and arrangement[a] == b for a, b in known)


def expected_regions(people, known):
    """The regions by the definition, where no known pairs cross."""
    told = [person for pair in known for person in pair]
    free = [person for person in range(people) if person not in told]
    found = {tuple(y for y in free if x == y or not any(crosses(pair, (x, y)) for pair in known)) for x in free}
    return sorted(found)


def expected_evidence(people, known):
    for one, other in itertools.combinations(known, 2):
        if crosses(one, other):
            return ("cross", one, other)
    for region in expected_regions(people, known):
        if len(region) % 2:
            return ("odd", region)
    return None


class Examples(unittest.TestCase):
    def test_many_and_regions(self):
        found = many(6, ()), many(6, ((0, 1),)), many(24, ()), regions(8, ((1, 4),)), many(8, ((1, 4),))
        self.assertTrue(same(found, (5, 2, 208012, [(0, 5, 6, 7), (2, 3)], 2)))

    def test_evidence_and_fits(self):
        found = (evidence(6, ((0, 3), (1, 4))), evidence(6, ((0, 2),)), evidence(6, ((0, 5), (1, 2))),
                 fits(((0, 3),), BENT))
        self.assertTrue(same(found, (('cross', (0, 3), (1, 4)), ('odd', (1,)), None, True)))

    def test_numbers(self):
        found = all_arrangements(6, ((0, 1),)), arrangement_at(6, (), 4), number_of(6, (), BENT)
        self.assertTrue(same(found, ([(1, 0, 3, 2, 5, 4), (1, 0, 5, 4, 3, 2)], (5, 4, 3, 2, 1, 0), 2)))

    def test_unfit(self):
        self.assertEqual(outcome(number_of, 6, ((0, 1),), BENT), raised(Unfit, pair=(0, 1)))


class EveryKnownOfFewPeople(unittest.TestCase):
    """All functions, by the definitions, for all that may be known of up to 8 people."""

    def each(self):
        for people in (0, 2, 4, 6, 8):
            whole = arrangements(people)
            for known in all_known(people):
                yield people, known, [arrangement for arrangement in whole if has(arrangement, known)], whole

    def test_evidence_or_an_arrangement(self):
        for people, known, fitting, whole in self.each():
            found = evidence(people, known)
            self.assertTrue(same(found, expected_evidence(people, known)), shown((people, known)))
            self.assertEqual(found is None, len(fitting) > 0)

    def test_regions(self):
        for people, known, fitting, whole in self.each():
            reason = expected_evidence(people, known)
            if reason and reason[0] == "cross":
                expected = raised(Impossible, evidence=reason)
            else:
                expected = ("returned", expected_regions(people, known))
            self.assertTrue(same(outcome(regions, people, known), expected), shown((people, known)))

    def test_counted_and_listed(self):
        for people, known, fitting, whole in self.each():
            self.assertTrue(same(many(people, known), len(fitting)), shown((people, known)))
            self.assertTrue(same(all_arrangements(people, known), fitting), shown((people, known)))

    def test_numbered(self):
        for people, known, fitting, whole in self.each():
            for number in range(-1, len(fitting) + 2):
                expected = raised(NoNumber, number=number)
                if 0 <= number < len(fitting):
                    expected = ("returned", fitting[number])
                self.assertTrue(same(outcome(arrangement_at, people, known, number), expected),
                                shown((people, known, number)))

    def test_numbers_of_all(self):
        for people, known, fitting, whole in self.each():
            for arrangement in whole:
                missing = [pair for pair in known if arrangement[pair[0]] != pair[1]]
                expected = raised(Unfit, pair=missing[0]) if missing else ("returned", fitting.index(arrangement))
                self.assertTrue(same(outcome(number_of, people, known, arrangement), expected),
                                shown((people, known, arrangement)))

    def test_fits_and_is_known(self):
        for people, known, fitting, whole in self.each():
            self.assertIs(is_known(people, known), True)
            for arrangement in whole:
                self.assertIs(fits(known, arrangement), arrangement in fitting)


class EveryWayToCall(Calls, unittest.TestCase):
    def test_what_is_known_of_six(self):
        for known in all_known(6):
            fitting = [arrangement for arrangement in arrangements(6) if has(arrangement, known)]
            given = {"people": 6, "known": known}
            reason = expected_evidence(6, known)
            self.returns(evidence, given, reason)
            self.returns(many, given, len(fitting))
            self.returns(all_arrangements, given, fitting)
            if reason and reason[0] == "cross":
                self.raises(regions, given, Impossible, evidence=reason)
            else:
                self.returns(regions, given, expected_regions(6, known))
            self.raises(arrangement_at, {**given, "number": len(fitting)}, NoNumber, number=len(fitting))
            for number, arrangement in enumerate(fitting):
                self.returns(arrangement_at, {**given, "number": number}, arrangement)
                self.returns(number_of, {**given, "arrangement": arrangement}, number)
            for arrangement in arrangements(6):
                self.returns(fits, {"known": known, "thing": arrangement}, arrangement in fitting)
                missing = [pair for pair in known if arrangement[pair[0]] != pair[1]]
                if missing:
                    self.raises(number_of, {**given, "arrangement": arrangement}, Unfit, pair=missing[0])
            self.raises(number_of, {**given, "arrangement": (1, 0)}, OtherPeople)
            self.returns(is_known, {"people": 6, "thing": known}, True)

    def test_returned_lists_are_new(self):
        for people, known in ((0, ()), (2, ()), (2, ((0, 1),)), (6, ()), (8, ((1, 4),)), (24, ALL_PAIRS),
                              (24, ALL_PAIRS[:9]), (6, [[0, 2]])):
            self.returns_new_lists(regions, people, known)
            self.returns_new_lists(all_arrangements, people, known)

    def test_evidence_does_not_hold_lists_of_the_caller(self):
        known = [[0, 3], [1, 4]]
        found = evidence(6, known)
        known[0][0] = 9
        self.assertTrue(same(found, ("cross", (0, 3), (1, 4))))
        known = [[0, 3], [1, 4]]
        with self.assertRaises(Impossible) as caught:
            regions(6, known)
        known[1].clear()
        self.assertTrue(same(caught.exception.evidence, ("cross", (0, 3), (1, 4))))
        known = [[0, 1]]
        with self.assertRaises(Unfit) as caught:
            number_of(6, known, BENT)
        known[0].clear()
        self.assertTrue(same(caught.exception.pair, (0, 1)))


class IsKnown(Calls, unittest.TestCase):
    def judge(self, people, thing, expected):
        self.returns(is_known, {"people": people, "thing": thing}, expected)

    def test_nothing_known(self):
        for people in (0, 2, 6, 24, 26, FAR):
            self.judge(people, (), True)
            self.judge(people, [], False)

    def test_every_tuple_of_two_pairs(self):
        pairs = list(itertools.product(range(-1, 5), repeat=2))
        right = all_known(4)
        for one in pairs:
            self.judge(4, (one,), (one,) in right)
            for other in pairs:
                self.assertIs(is_known(4, (one, other)), (one, other) in right)

    def test_people_who_are_not_there(self):
        self.judge(0, ((0, 1),), False)
        self.judge(2, ((0, 1),), True)
        self.judge(2, ((0, 2),), False)
        self.judge(24, ((0, 23),), True)
        self.judge(24, ((0, 24),), False)
        self.judge(24, ((22, 23),), True)
        self.judge(24, ((24, 25),), False)
        self.judge(26, ((24, 25),), True)
        self.judge(6, ((-1, 0),), False)
        self.judge(6, ((-2, -1),), False)
        self.judge(6, ((0, FAR),), False)
        self.judge(6, ((-FAR, 0),), False)
        self.judge(FAR, ((0, FAR - 1),), True)
        self.judge(FAR, ((0, FAR),), False)

    def test_order(self):
        self.judge(6, ((0, 1), (2, 3)), True)
        self.judge(6, ((2, 3), (0, 1)), False)
        self.judge(6, ((0, 5), (2, 3)), True)
        self.judge(6, ((2, 3), (0, 5)), False)
        self.judge(6, ((0, 1), (4, 5), (2, 3)), False)
        self.judge(6, ((1, 0),), False)
        self.judge(6, ((0, 1), (3, 2)), False)

    def test_different_people(self):
        self.judge(6, ((0, 1), (0, 1)), False)
        self.judge(6, ((0, 1), (0, 2)), False)
        self.judge(6, ((0, 2), (1, 2)), False)
        self.judge(6, ((0, 1), (1, 2)), False)
        self.judge(6, ((0, 0),), False)
        self.judge(6, ((0, 3), (1, 4), (2, 3)), False)

    def test_they_may_cross(self):
        self.judge(6, ((0, 3), (1, 4), (2, 5)), True)
        self.judge(24, tuple((i, i + 12) for i in range(12)), True)

    def test_many_pairs(self):
        self.judge(24, ALL_PAIRS, True)
        self.judge(22, ALL_PAIRS, False)
        self.judge(24, ALL_PAIRS[::-1], False)
        self.judge(24, ALL_PAIRS + ((24, 25),), False)
        self.judge(1000, tuple((i, 999 - i) for i in range(500)), True)
        self.judge(998, tuple((i, 999 - i) for i in range(500)), False)

    def test_lists_in_place_of_tuples(self):
        self.judge(6, [(0, 1)], False)
        self.judge(6, ([0, 1],), False)
        self.judge(6, [[0, 1]], False)
        self.judge(6, ((0, 1), [2, 3]), False)
        self.judge(24, list(ALL_PAIRS), False)

    def test_values_of_every_kind(self):
        for thing in (0, 1, -1, FAR, 10 ** 5000, True, False, None, "", "-", "0-1", "()", (0,), (0, 1), (None,),
                      (True,), ("",), ("01",), ("ab",), ((),), ([],), ((0,),), ((0, 1, 2),), ((0, 1), ()),
                      ((0, 1), 2), ((0, 1), None), ((0, 1), "23"), ((0, 1), (2, "3")), ((0, 1), ("2", 3)),
                      ((0, 1), (2, None)), ((None, None),), ((0, True),), ((False, 1),), ((False, True),),
                      ((0, 1), (True, 3)), ((True, 2),), ((0, (1,)),), (((0, 1),),), (((0,), (1,)),), ((0, [1]),),
                      ((0, 10 ** 5000),), ((-10 ** 5000, 0),), ("cross", (0, 3), (1, 4)), (((0, 1), (2, 3)),)):
            for people in (0, 2, 6, 24):
                self.judge(people, thing, False)

    def test_deep_values(self):
        for kind in (list, tuple):
            for levels in (3, 14, 16):
                deep = nested(0, levels, kind)
                self.judge(6, deep, False)
            for levels in (3, 14):
                deep = nested(0, levels, kind)
                self.judge(6, (deep,), False)
                self.judge(6, ((0, deep),), False)
                self.judge(6, ((deep, 1),), False)
                self.judge(6, ((0, 1), deep), False)


class Fits(Calls, unittest.TestCase):
    def judge(self, known, thing, expected):
        self.returns(fits, {"known": known, "thing": thing}, expected)

    def test_nothing_known(self):
        for people in (0, 2, 6, 24, 26, 100):
            for arrangement in shaped(people):
                self.judge((), arrangement, True)
                self.judge((), list(arrangement), False)

    def test_any_number_of_people(self):
        for people in (2, 4, 6, 24, 60):
            self.judge(((0, 1),), side_by_side(people), True)
            self.judge(((0, people - 1),), facing(people), True)
            self.judge(((0, people + 1),), facing(people), False)
        self.judge(((0, 1),), (), False)
        self.judge(((0, 3),), (1, 0), False)
        self.judge(((2, 3),), (1, 0), False)
        self.judge(((22, 23),), (1, 0), False)
        self.judge(((0, FAR),), (1, 0), False)
        self.judge(((FAR, FAR + 1),), (1, 0), False)

    def test_all_pairs(self):
        self.judge(ALL_PAIRS, side_by_side(24), True)
        self.judge(ALL_PAIRS, side_by_side(26), True)
        self.judge(ALL_PAIRS, side_by_side(22), False)
        self.judge(ALL_PAIRS, facing(24), False)

    def test_known_pairs_that_cross(self):
        for people in (0, 4, 6, 8):
            for arrangement in arrangements(people):
                self.judge(((0, 2), (1, 3)), arrangement, False)
        self.judge(((0, 2), (1, 3)), (2, 3, 0, 1), False)

    def test_no_arrangements(self):
        for thing in ((2, 3, 0, 1), (0,), (0, 1), (1, 0, 2), (1, 0, 3, 2, 4), (1, -2), (-1, 0), (True, False), (1, False),
                      (True, 0), (1, "0"), (1, None), (1, (0,)), ((1, 0),), [1, 0], [], 0, 1, True, False, None, "",
                      "10", "1 0", FAR, ((0, 1),), [(0, 1)], [[1, 0]], 10 ** 5000, (10 ** 5000, 0)):
            self.judge((), thing, False)
            self.judge(((0, 1),), thing, False)

    def test_deep_values(self):
        for kind in (list, tuple):
            for levels in (1, 2, 14):
                self.judge((), nested(0, levels, kind), False)
                self.judge((), nested((1, 0), levels, kind), False)
                self.judge(((0, 1),), (1, nested(0, levels, kind)), False)


class Regions(Calls, unittest.TestCase):
    def check(self, people, known, expected):
        self.returns(regions, {"people": people, "known": known}, expected)

    def test_edges(self):
        self.check(0, (), [])
        self.check(2, (), [(0, 1)])
        self.check(2, ((0, 1),), [])
        self.check(24, (), [tuple(range(24))])
        self.check(26, (), [tuple(range(26))])
        self.check(24, ALL_PAIRS, [])
        self.check(24, ((0, 23),), [tuple(range(1, 23))])

    def test_odd_regions_are_regions(self):
        self.check(6, ((0, 2),), [(1,), (3, 4, 5)])
        self.check(8, ((1, 3), (5, 7)), [(0, 4), (2,), (6,)])
        self.check(24, ((2, 12),), [(0, 1) + tuple(range(13, 24)), tuple(range(3, 12))])

    def test_ascending(self):
        self.check(12, ((2, 5), (7, 10)), [(0, 1, 6, 11), (3, 4), (8, 9)])
        self.check(12, ((1, 10), (3, 6)), [(0, 11), (2, 7, 8, 9), (4, 5)])
        self.check(12, ((0, 11), (1, 4), (5, 8)), [(2, 3), (6, 7), (9, 10)])

    def test_crossing_pairs(self):
        self.raises(regions, {"people": 6, "known": ((0, 3), (1, 4))}, Impossible,
                    evidence=("cross", (0, 3), (1, 4)))
        self.raises(regions, {"people": 8, "known": ((0, 2), (3, 5), (4, 6))}, Impossible,
                    evidence=("cross", (3, 5), (4, 6)))


class Evidence(Calls, unittest.TestCase):
    def check(self, people, known, expected):
        self.returns(evidence, {"people": people, "known": known}, expected)

    def test_edges(self):
        self.check(0, (), None)
        self.check(2, (), None)
        self.check(2, ((0, 1),), None)
        self.check(24, (), None)
        self.check(24, ALL_PAIRS, None)

    def test_as_early_as_possible(self):
        self.check(8, ((0, 1), (2, 4), (3, 6), (5, 7)), ("cross", (2, 4), (3, 6)))
        self.check(8, ((0, 5), (1, 2), (3, 6), (4, 7)), ("cross", (0, 5), (3, 6)))
        self.check(8, ((0, 7), (1, 4), (2, 5), (3, 6)), ("cross", (1, 4), (2, 5)))
        self.check(8, ((0, 6), (1, 3), (2, 4), (5, 7)), ("cross", (0, 6), (5, 7)))
        self.check(24, tuple((i, i + 12) for i in range(12)), ("cross", (0, 12), (1, 13)))
        self.check(24, ((0, 1), (10, 22), (11, 12), (21, 23)), ("cross", (10, 22), (21, 23)))

    def test_crossing_comes_before_odd(self):
        self.check(8, ((0, 2), (3, 5), (4, 6)), ("cross", (3, 5), (4, 6)))
        self.check(6, ((0, 2), (1, 4)), ("cross", (0, 2), (1, 4)))

    def test_the_first_odd_region(self):
        self.check(8, ((1, 4), (5, 7)), ("odd", (0,)))
        self.check(8, ((1, 3), (5, 7)), ("odd", (2,)))
        self.check(8, ((0, 5), (1, 3)), ("odd", (2,)))
        self.check(8, ((0, 4),), ("odd", (1, 2, 3)))
        self.check(24, ((0, 23), (1, 21)), ("odd", tuple(range(2, 21))))
        self.check(24, ((3, 23),), ("odd", (0, 1, 2)))


class Many(Calls, unittest.TestCase):
    def check(self, people, known, expected):
        self.returns(many, {"people": people, "known": known}, expected)

    def test_nothing_known(self):
        for pairs, count in enumerate(CATALAN):
            self.check(2 * pairs, (), count)

    def test_the_sum_of_the_document(self):
        for k in range(1, 30):
            self.assertEqual(many(2 * k, ()), sum(many(2 * i, ()) * many(2 * (k - 1 - i), ()) for i in range(k)))

    def test_a_product_over_the_regions(self):
        self.check(24, ((0, 23),), CATALAN[11])
        self.check(24, ((0, 13),), CATALAN[6] * CATALAN[5])
        self.check(24, ((0, 9), (10, 17)), CATALAN[4] * CATALAN[3] * CATALAN[3])
        self.check(24, ((1, 10), (11, 20)), CATALAN[4] * CATALAN[4] * CATALAN[2])

    def test_all_pairs_known(self):
        self.check(2, ((0, 1),), 1)
        self.check(24, ALL_PAIRS, 1)
        self.check(24, tuple((i, 23 - i) for i in range(12)), 1)

    def test_none(self):
        self.check(4, ((0, 2),), 0)
        self.check(4, ((0, 2), (1, 3)), 0)
        self.check(8, ((0, 2), (3, 5), (4, 6)), 0)
        self.check(24, tuple((i, i + 12) for i in range(12)), 0)
        self.check(24, ((1, 21),), 0)


class Numbers(Calls, unittest.TestCase):
    KNOWN_OF_24 = [(), ((0, 23),), ((0, 1),), ((22, 23),), ((5, 14),), ((1, 10), (11, 20)), ((3, 12), (5, 8), (14, 21)),
                   ALL_PAIRS, ALL_PAIRS[:6], ALL_PAIRS[6:], ALL_PAIRS[1:]]

    def test_edges(self):
        self.returns(arrangement_at, {"people": 0, "known": (), "number": 0}, ())
        self.returns(number_of, {"people": 0, "known": (), "arrangement": ()}, 0)
        self.returns(arrangement_at, {"people": 2, "known": (), "number": 0}, (1, 0))
        self.returns(number_of, {"people": 2, "known": (), "arrangement": (1, 0)}, 0)
        self.returns(arrangement_at, {"people": 24, "known": (), "number": 0}, side_by_side(24))
        self.returns(arrangement_at, {"people": 24, "known": (), "number": 208011}, facing(24))
        self.returns(number_of, {"people": 24, "known": (), "arrangement": side_by_side(24)}, 0)
        self.returns(number_of, {"people": 24, "known": (), "arrangement": facing(24)}, 208011)
        self.returns(arrangement_at, {"people": 24, "known": ALL_PAIRS, "number": 0}, side_by_side(24))
        self.returns(number_of, {"people": 24, "known": ALL_PAIRS, "arrangement": side_by_side(24)}, 0)

    def test_beyond_the_first_and_the_last(self):
        for people, known, count in ((0, (), 1), (2, (), 1), (2, ((0, 1),), 1), (6, (), 5), (6, ((0, 1),), 2),
                                     (24, (), 208012), (24, ALL_PAIRS, 1), (4, ((0, 2),), 0),
                                     (4, ((0, 2), (1, 3)), 0)):
            for number in (-1, -2, -count - 1, count, count + 1, FAR, -FAR):
                given = {"people": people, "known": known, "number": number}
                self.raises(arrangement_at, given, NoNumber, number=number)
        self.raises(arrangement_at, {"people": 4, "known": ((0, 2),), "number": 0}, NoNumber, number=0)

    def test_all_of_twelve_and_fourteen(self):
        for people in (10, 12, 14):
            whole = many_arrangements(people)
            self.assertEqual([arrangement_at(people, (), number) for number in range(len(whole))], whole)
            self.assertEqual([number_of(people, (), arrangement) for arrangement in whole], list(range(len(whole))))

    def test_regions_inside_one_another(self):
        whole = many_arrangements(14)
        for known in (((1, 6),), ((0, 9),), ((2, 5), (8, 13)), ((1, 12), (3, 8)), ((4, 7),), ((6, 13),)):
            fitting = [arrangement for arrangement in whole if has(arrangement, known)]
            self.assertTrue(fitting)
            self.assertEqual(all_arrangements(14, known), fitting)
            for number, arrangement in enumerate(fitting):
                self.assertEqual(number_of(14, known, arrangement), number)

    def test_both_ways_with_many_people(self):
        for known in self.KNOWN_OF_24:
            count = many(24, known)
            numbers = sorted({count * i // 40 for i in range(40)} | {0, count // 2, count - 1})
            found = [arrangement_at(24, known, number) for number in numbers]
            self.assertEqual(found, sorted(set(found)))
            for number, arrangement in zip(numbers, found):
                self.assertTrue(fits_definition(arrangement) and has(arrangement, known))
                self.assertEqual(number_of(24, known, arrangement), number)
                self.assertEqual(number_of(24, listed(known), listed(arrangement)), number)

    def test_neighbours_in_the_order(self):
        start = 132000
        found = [arrangement_at(24, (), number) for number in range(start, start + 60)]
        for one, other in zip(found, found[1:]):
            self.assertLess(one, other)

    def test_not_one_by_one(self):
        # There are more of them than could be gone through.
        count = many(60, ())
        self.assertEqual(count, 3814986502092304)
        for number in (0, count // 3, count - 1):
            self.assertEqual(number_of(60, (), arrangement_at(60, (), number)), number)

    def test_other_people_come_first(self):
        for people, known, arrangement in ((6, (), (1, 0)), (6, ((4, 5),), (1, 0)), (6, ((0, 1),), ()), (0, (), (1, 0)),
                                           (4, ((0, 3),), FLAT), (24, ((0, 1),), facing(22)), (2, ((0, 1),), FLAT),
                                           (6, ((0, 3), (1, 4)), (3, 2, 1, 0))):
            self.raises(number_of, {"people": people, "known": known, "arrangement": arrangement}, OtherPeople)

    def test_the_first_pair_that_is_not_an_arm(self):
        for known, pair in ((((0, 3), (1, 4)), (1, 4)), (((0, 1), (2, 3)), (0, 1)), (((0, 3), (1, 5)), (1, 5)),
                            (((0, 3), (4, 5)), None), (((1, 2), (3, 5)), (3, 5)), (((0, 2),), (0, 2)),
                            (((0, 2), (1, 3)), (0, 2)), (((2, 3), (4, 5)), (2, 3))):
            given = {"people": 6, "known": known, "arrangement": BENT}
            if pair is None:
                self.returns(number_of, given, 0)
            else:
                self.raises(number_of, given, Unfit, pair=pair)


class AllArrangements(Calls, unittest.TestCase):
    def test_edges(self):
        self.returns(all_arrangements, {"people": 0, "known": ()}, [()])
        self.returns(all_arrangements, {"people": 2, "known": ()}, [(1, 0)])
        self.returns(all_arrangements, {"people": 2, "known": ((0, 1),)}, [(1, 0)])
        self.returns(all_arrangements, {"people": 24, "known": ALL_PAIRS}, [side_by_side(24)])

    def test_none(self):
        self.returns(all_arrangements, {"people": 4, "known": ((0, 2),)}, [])
        self.returns(all_arrangements, {"people": 4, "known": ((0, 2), (1, 3))}, [])
        self.returns(all_arrangements, {"people": 24, "known": ((1, 21),)}, [])

    def test_most_of_nothing_known(self):
        self.assertEqual(all_arrangements(12, ()), many_arrangements(12))
        self.raises(all_arrangements, {"people": 14, "known": ()}, TooMany, many=429)
        self.raises(all_arrangements, {"people": 24, "known": ()}, TooMany, many=208012)
        self.raises(all_arrangements, {"people": 26, "known": ()}, TooMany, many=742900)
        self.raises(all_arrangements, {"people": 60, "known": ()}, TooMany, many=3814986502092304)

    def test_nearest_to_three_hundred(self):
        # No product of the numbers 1, 2, 5, 14, 42, 132, .. is exactly 300.
        found = all_arrangements(18, ((0, 13),))
        self.assertEqual(len(found), 132 * 2)
        self.assertEqual(found, sorted(set(found)))
        self.assertTrue(all(fits_definition(arrangement) and arrangement[0] == 13 for arrangement in found))
        found = all_arrangements(28, ((0, 9), (10, 17), (18, 23)))
        self.assertEqual(len(set(found)), 14 * 5 * 2 * 2)
        self.raises(all_arrangements, {"people": 24, "known": ((0, 9), (10, 17))}, TooMany, many=14 * 5 * 5)
        self.raises(all_arrangements, {"people": 24, "known": ((1, 10), (11, 20))}, TooMany, many=14 * 14 * 2)

    def test_exactly_most_is_not_too_many(self):
        self.assertEqual(MOST, 300)
        with mock.patch("handshakes.known.MOST", 14):
            self.assertEqual(len(all_arrangements(8, ())), 14)
        with mock.patch("handshakes.known.MOST", 13):
            self.assertEqual(outcome(all_arrangements, 8, ()), raised(TooMany, many=14))


if __name__ == "__main__":
    unittest.main()
