import itertools
import unittest
from fractions import Fraction

from calls import Calls, outcome, raised
from handshakes.chances import neighbour_mean, pair_chance, partner_chances, possible_pairs, sure_pairs
from handshakes.errors import Impossible, NoPerson
from handshakes.known import evidence, many
from shapes import FAR, all_known, arrangements, many_arrangements, same, shown

ALL_PAIRS = tuple((i, i + 1) for i in range(0, 24, 2))
FACING = tuple((i, 23 - i) for i in range(12))


def lowest(count, whole):
    """The fraction by Python's own fractions."""
    found = Fraction(count, whole)
    return (found.numerator, found.denominator)


def fitting(whole, known):
    return [arrangement for arrangement in whole if all(arrangement[a] == b for a, b in known)]


def share(found, one, other):
    return lowest(sum(arrangement[one] == other for arrangement in found), len(found))


def mean(found, people):
    pairs = {(i, i + 1) for i in range(people - 1)} | ({(0, people - 1)} if people else set())
    return lowest(sum(arrangement[a] == b for arrangement in found for a, b in pairs), len(found))


class Examples(unittest.TestCase):
    def test_chances(self):
        found = pair_chance(6, (), 0, 1), pair_chance(6, (), 0, 2), partner_chances(6, (), 0)
        self.assertTrue(same(found, ((2, 5), (0, 1), [(1, (2, 5)), (3, (1, 5)), (5, (2, 5))])))

    def test_pairs_and_mean(self):
        found = sure_pairs(6, ((0, 3),)), possible_pairs(4, ()), neighbour_mean(6, ())
        self.assertTrue(same(found, ([(0, 3), (1, 2), (4, 5)], [(0, 1), (0, 3), (1, 2), (2, 3)], (12, 5))))

    def test_impossible(self):
        self.assertEqual(outcome(pair_chance, 6, ((0, 2),), 0, 9), raised(Impossible, evidence=("odd", (1,))))


class EveryKnownOfFewPeople(unittest.TestCase):
    """All functions, by going through all arrangements, for all that may be known of up to 8 people."""

    def each(self):
        for people in (0, 2, 4, 6, 8):
            whole = arrangements(people)
            for known in all_known(people):
                yield people, known, fitting(whole, known)

    def expect(self, function, given, found, value):
        """value: a function that is called if anything fits."""
        people, known = given[:2]
        if found:
            expected = ("returned", value())
        else:
            expected = raised(Impossible, evidence=evidence(people, known))
        self.assertTrue(same(outcome(function, *given), expected), shown((function.__name__, given)))

    def test_pair_chance(self):
        for people, known, found in self.each():
            for one, other in itertools.permutations(range(people), 2):
                self.expect(pair_chance, (people, known, one, other), found, lambda: share(found, one, other))

    def test_partner_chances(self):
        for people, known, found in self.each():
            for person in range(people):
                def value():
                    partners = sorted({arrangement[person] for arrangement in found})
                    return [(partner, share(found, person, partner)) for partner in partners]
                self.expect(partner_chances, (people, known, person), found, value)

    def test_sure_and_possible_pairs(self):
        for people, known, found in self.each():
            arms = [{(a, b) for a, b in enumerate(arrangement) if a < b} for arrangement in found]
            self.expect(sure_pairs, (people, known), found, lambda: sorted(set.intersection(*arms)))
            self.expect(possible_pairs, (people, known), found, lambda: sorted(set.union(*arms)))

    def test_neighbour_mean(self):
        for people, known, found in self.each():
            self.expect(neighbour_mean, (people, known), found, lambda: mean(found, people))


class ManyPeople(unittest.TestCase):
    def test_fourteen_people(self):
        whole = many_arrangements(14)
        for known in ((), ((0, 13),), ((1, 6),), ((2, 5), (8, 13)), ((1, 12), (3, 8)), ((3, 4), (7, 12))):
            found = fitting(whole, known)
            for one, other in itertools.combinations(range(14), 2):
                self.assertEqual(pair_chance(14, known, one, other), share(found, one, other))
                self.assertEqual(pair_chance(14, known, other, one), share(found, one, other))
            self.assertEqual(neighbour_mean(14, known), mean(found, 14))

    def test_chances_of_one_person_are_one_together(self):
        for people in (24, 26, 60):
            for person in (0, 1, people // 2, people - 1):
                found = partner_chances(people, (), person)
                self.assertEqual(sum(Fraction(*chance) for partner, chance in found), 1)
                self.assertEqual([partner for partner, chance in found],
                                 [other for other in range(people) if (other - person) % 2])

    def test_twenty_four_people(self):
        self.assertEqual(pair_chance(24, (), 0, 1), lowest(many(22, ()), many(24, ())))
        self.assertEqual(pair_chance(24, (), 0, 11), lowest(many(10, ()) * many(12, ()), many(24, ())))
        self.assertEqual(neighbour_mean(24, ()), lowest(24 * many(22, ()), many(24, ())))
        self.assertEqual(possible_pairs(24, ()),
                         [(a, b) for a, b in itertools.combinations(range(24), 2) if (b - a) % 2])
        self.assertEqual(sure_pairs(24, ()), [])

    def test_more_than_can_be_gone_through(self):
        # An arm between neighbours leaves C(29) of the C(30) arrangements.
        self.assertEqual(neighbour_mean(60, ()), lowest(60 * many(58, ()), many(60, ())))


class EveryWayToCall(Calls, unittest.TestCase):
    def test_what_is_known_of_six(self):
        for known in all_known(6):
            found = fitting(arrangements(6), known)
            given = {"people": 6, "known": known}
            if not found:
                reason = evidence(6, known)
                self.raises(pair_chance, {**given, "one": 0, "other": 1}, Impossible, evidence=reason)
                self.raises(partner_chances, {**given, "person": 0}, Impossible, evidence=reason)
                for function in (sure_pairs, possible_pairs, neighbour_mean):
                    self.raises(function, given, Impossible, evidence=reason)
                continue
            arms = [{(a, b) for a, b in enumerate(arrangement) if a < b} for arrangement in found]
            self.returns(sure_pairs, given, sorted(set.intersection(*arms)))
            self.returns(possible_pairs, given, sorted(set.union(*arms)))
            self.returns(neighbour_mean, given, mean(found, 6))
            for one, other in itertools.permutations(range(6), 2):
                self.returns(pair_chance, {**given, "one": one, "other": other}, share(found, one, other))
            self.returns(partner_chances, {**given, "person": 5},
                         [(partner, share(found, 5, partner)) for partner in range(5)
                          if share(found, 5, partner) != (0, 1)])

    def test_nobody(self):
        given = {"people": 0, "known": ()}
        self.returns(sure_pairs, given, [])
        self.returns(possible_pairs, given, [])
        self.returns(neighbour_mean, given, (0, 1))

    def test_two_people(self):
        for known in ((), ((0, 1),)):
            given = {"people": 2, "known": known}
            self.returns(pair_chance, {**given, "one": 0, "other": 1}, (1, 1))
            self.returns(pair_chance, {**given, "one": 1, "other": 0}, (1, 1))
            self.returns(partner_chances, {**given, "person": 0}, [(1, (1, 1))])
            self.returns(partner_chances, {**given, "person": 1}, [(0, (1, 1))])
            self.returns(sure_pairs, given, [(0, 1)])
            self.returns(possible_pairs, given, [(0, 1)])
            self.returns(neighbour_mean, given, (1, 1))

    def test_four_people(self):
        given = {"people": 4, "known": ()}
        self.returns(neighbour_mean, given, (2, 1))
        self.returns(pair_chance, {**given, "one": 0, "other": 3}, (1, 2))
        self.returns(sure_pairs, given, [])

    def test_all_pairs_known(self):
        given = {"people": 24, "known": ALL_PAIRS}
        self.returns(sure_pairs, given, list(ALL_PAIRS))
        self.returns(possible_pairs, given, list(ALL_PAIRS))
        self.returns(neighbour_mean, given, (12, 1))
        self.returns(pair_chance, {**given, "one": 22, "other": 23}, (1, 1))
        self.returns(pair_chance, {**given, "one": 0, "other": 23}, (0, 1))
        self.returns(partner_chances, {**given, "person": 23}, [(22, (1, 1))])
        given = {"people": 24, "known": FACING}
        self.returns(sure_pairs, given, list(FACING))
        # The first and the last person are neighbours, too.
        self.returns(neighbour_mean, given, (2, 1))

    def test_sure_pairs_and_pairs_that_cannot_be(self):
        given = {"people": 8, "known": ((0, 3),)}
        self.returns(sure_pairs, given, [(0, 3), (1, 2)])
        self.returns(possible_pairs, given, [(0, 3), (1, 2), (4, 5), (4, 7), (5, 6), (6, 7)])
        self.returns(pair_chance, {**given, "one": 2, "other": 1}, (1, 1))
        self.returns(pair_chance, {**given, "one": 2, "other": 5}, (0, 1))
        self.returns(pair_chance, {**given, "one": 4, "other": 6}, (0, 1))
        self.returns(pair_chance, {**given, "one": 0, "other": 1}, (0, 1))
        self.returns(pair_chance, {**given, "one": 1, "other": 0}, (0, 1))
        self.returns(pair_chance, {**given, "one": 4, "other": 7}, (1, 2))
        self.returns(partner_chances, {**given, "person": 1}, [(2, (1, 1))])
        self.returns(partner_chances, {**given, "person": 0}, [(3, (1, 1))])
        self.returns(partner_chances, {**given, "person": 6}, [(5, (1, 2)), (7, (1, 2))])

    def test_returned_lists_are_new(self):
        for people, known in ((2, ()), (6, ()), (6, ((0, 3),)), (24, ALL_PAIRS), (24, ()), (6, [[0, 3]])):
            self.returns_new_lists(sure_pairs, people, known)
            self.returns_new_lists(possible_pairs, people, known)
            self.returns_new_lists(partner_chances, people, known, 1)
        self.returns_new_lists(sure_pairs, 0, ())


class PeopleWhoAreNotThere(Calls, unittest.TestCase):
    def test_partner_chances(self):
        for people, known in ((0, ()), (2, ()), (6, ()), (6, ((0, 3),)), (24, ALL_PAIRS)):
            for person in (-1, -people - 1, people, people + 1, FAR, -FAR):
                self.raises(partner_chances, {"people": people, "known": known, "person": person}, NoPerson,
                            person=person)

    def test_pair_chance_for_one_before_other(self):
        for people, known in ((2, ()), (6, ()), (6, ((0, 3),)), (24, ALL_PAIRS)):
            given = {"people": people, "known": known}
            for absent in (-1, -people, people, FAR, -FAR):
                self.raises(pair_chance, {**given, "one": absent, "other": 0}, NoPerson, person=absent)
                self.raises(pair_chance, {**given, "one": 0, "other": absent}, NoPerson, person=absent)
                self.raises(pair_chance, {**given, "one": absent, "other": people + 7}, NoPerson, person=absent)
                self.raises(pair_chance, {**given, "one": people + 7, "other": absent}, NoPerson, person=people + 7)

    def test_nobody(self):
        self.raises(pair_chance, {"people": 0, "known": (), "one": 0, "other": 1}, NoPerson, person=0)
        self.raises(partner_chances, {"people": 0, "known": (), "person": 0}, NoPerson, person=0)

    def test_impossible_comes_first(self):
        for people, known, reason in ((6, ((0, 2),), ("odd", (1,))), (4, ((0, 2), (1, 3)), ("cross", (0, 2), (1, 3))),
                                      (24, ((1, 21),), ("odd", (0, 22, 23))),
                                      (8, ((0, 2), (3, 5), (4, 6)), ("cross", (3, 5), (4, 6)))):
            given = {"people": people, "known": known}
            for person in (0, -1, people, FAR):
                self.raises(partner_chances, {**given, "person": person}, Impossible, evidence=reason)
                self.raises(pair_chance, {**given, "one": person, "other": people}, Impossible, evidence=reason)
                self.raises(pair_chance, {**given, "one": 1, "other": person}, Impossible, evidence=reason)
            for function in (sure_pairs, possible_pairs, neighbour_mean):
                self.raises(function, given, Impossible, evidence=reason)

    def test_the_evidence_does_not_hold_lists_of_the_caller(self):
        known = [[0, 2], [1, 3]]
        with self.assertRaises(Impossible) as caught:
            sure_pairs(4, known)
        known[0].clear()
        self.assertTrue(same(caught.exception.evidence, ("cross", (0, 2), (1, 3))))


if __name__ == "__main__":
    unittest.main()
