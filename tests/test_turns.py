import unittest

from calls import Calls
from handshakes.known import many
from handshakes.turns import alike_many, mirrored, period, turned
from shapes import (BENT, FAR, FLAT, arrangements, facing, fits_definition, from_pairs, many_arrangements, same, shaped,
                    shown, side_by_side, two_halves)


def moved(arrangement, new_number):
    """The arrangement in which everybody has a new number."""
    pairs = [(new_number(a), new_number(b)) for a, b in enumerate(arrangement)]
    return from_pairs(len(arrangement), pairs)


def one_on(arrangement):
    """Turned by one seat, by the definition: behind the last number comes 0."""
    return moved(arrangement, lambda i: i + 1 if i + 1 < len(arrangement) else 0)


def turned_often(arrangement, seats):
    for seat in range(seats):
        arrangement = one_on(arrangement)
    return arrangement


def least_period(arrangement):
    seats = 1
    while turned_often(arrangement, seats) != arrangement:
        seats += 1
    return seats


class Examples(unittest.TestCase):
    def test_turned_and_mirrored(self):
        found = turned(FLAT, 1), mirrored(BENT), period(FLAT), period(BENT), period((1, 0))
        self.assertTrue(same(found, ((5, 2, 1, 4, 3, 0), (1, 0, 5, 4, 3, 2), 2, 3, 1)))

    def test_alike_many(self):
        found = alike_many(6, 0), alike_many(6, 3), alike_many(6, 2), alike_many(6, 1)
        self.assertTrue(same(found, (5, 3, 2, 0)))


class Turned(Calls, unittest.TestCase):
    def test_every_small_arrangement(self):
        for people in (0, 2, 4, 6, 8):
            for arrangement in arrangements(people):
                expected = arrangement
                for seats in range(2 * people + 2):
                    self.returns(turned, {"arrangement": arrangement, "seats": seats}, expected)
                    self.assertTrue(fits_definition(expected))
                    expected = one_on(expected)

    def test_below_zero(self):
        self.returns(turned, {"arrangement": BENT, "seats": -1}, (1, 0, 5, 4, 3, 2))
        self.returns(turned, {"arrangement": (1, 0, 5, 4, 3, 2), "seats": -1}, (5, 4, 3, 2, 1, 0))
        for arrangement in arrangements(6) + shaped(24):
            for seats in (1, 2, 5, 6, 7, 23, 24, 25, 100):
                back = {"arrangement": turned_often(arrangement, seats), "seats": -seats}
                self.returns(turned, back, arrangement)

    def test_beyond_the_number_of_people(self):
        for arrangement in [(1, 0), FLAT, BENT] + shaped(24) + shaped(26):
            people = len(arrangement)
            for seats in (people - 1, people, people + 1, 3 * people + 5):
                self.returns(turned, {"arrangement": arrangement, "seats": seats}, turned_often(arrangement, seats))
            for times in (FAR, -FAR, 10 ** 400):
                given = {"arrangement": arrangement, "seats": times * people + 5}
                self.returns(turned, given, turned_often(arrangement, 5))

    def test_nobody_and_two_people(self):
        for seats in (0, 1, -1, 2, 7, FAR, -FAR):
            self.returns(turned, {"arrangement": (), "seats": seats}, ())
            self.returns(turned, {"arrangement": (1, 0), "seats": seats}, (1, 0))


class Mirrored(Calls, unittest.TestCase):
    def test_every_small_arrangement(self):
        for people in (0, 2, 4, 6, 8, 10):
            for arrangement in arrangements(people):
                expected = moved(arrangement, lambda i: people - 1 - i)
                self.returns(mirrored, {"arrangement": arrangement}, expected)
                self.assertTrue(fits_definition(expected))

    def test_many_people(self):
        for people in (24, 26, 100):
            for arrangement in shaped(people) + [turned_often(two_halves(people), 1)]:
                expected = moved(arrangement, lambda i: people - 1 - i)
                self.returns(mirrored, {"arrangement": arrangement}, expected)
                self.assertEqual(mirrored(expected), arrangement)

    def test_nobody_and_two_people(self):
        self.returns(mirrored, {"arrangement": ()}, ())
        self.returns(mirrored, {"arrangement": (1, 0)}, (1, 0))


class Period(Calls, unittest.TestCase):
    def test_every_small_arrangement(self):
        for people in (0, 2, 4, 6, 8, 10):
            for arrangement in arrangements(people):
                self.returns(period, {"arrangement": arrangement}, least_period(arrangement))

    def test_edges(self):
        self.returns(period, {"arrangement": ()}, 1)
        self.returns(period, {"arrangement": (1, 0)}, 1)
        self.returns(period, {"arrangement": side_by_side(24)}, 2)
        self.returns(period, {"arrangement": facing(24)}, 12)
        self.returns(period, {"arrangement": facing(10) + tuple(i + 10 for i in side_by_side(14))}, 24)

    def test_every_period_of_twelve(self):
        whole = many_arrangements(12)
        for arrangement in whole:
            self.assertEqual(period(arrangement), least_period(arrangement))
        self.assertEqual(sorted({period(arrangement) for arrangement in whole}), [2, 4, 6, 12])


class AlikeMany(Calls, unittest.TestCase):
    def test_by_going_through_all(self):
        for people in (0, 2, 4, 6, 8, 10, 12, 14, 16):
            counts = [0] * max(people, 1)
            for arrangement in many_arrangements(people):
                other = arrangement
                for seats in range(people or 1):
                    counts[seats] += other == arrangement
                    other = one_on(other)
            for seats, count in enumerate(counts):
                for given in (seats, seats - people, seats + people, seats - 5 * people, seats + people * FAR,
                              seats - people * FAR):
                    self.returns(alike_many, {"people": people, "seats": given}, count)

    def test_nobody(self):
        for seats in (0, 1, 2, -1, 24, FAR, -FAR):
            self.returns(alike_many, {"people": 0, "seats": seats}, 1)

    def test_two_people(self):
        for seats in (0, 1, 2, -1, 7, FAR, FAR + 1, -FAR):
            self.returns(alike_many, {"people": 2, "seats": seats}, 1)

    def test_twenty_four_people(self):
        # 924 is the number of ways to choose 6 of 12; 70, 20, 6 and 2 are those for 4 of 8, 3 of 6, 2 of 4 and 1 of 2.
        expected = {0: 208012, 1: 0, 2: 2, 3: 0, 4: 6, 5: 0, 6: 20, 7: 0, 8: 70, 9: 0, 10: 2, 11: 0, 12: 924}
        for seats, count in expected.items():
            for given in (seats, -seats, 24 - seats, 24 + seats, -24 * FAR + seats):
                self.returns(alike_many, {"people": 24, "seats": given}, count)

    def test_more_people(self):
        self.returns(alike_many, {"people": 26, "seats": 0}, many(26, ()))
        self.returns(alike_many, {"people": 26, "seats": 13}, 1716)
        self.returns(alike_many, {"people": 60, "seats": 30}, 155117520)
        self.assertEqual(alike_many(60, 60), 3814986502092304)

    def test_the_periods_agree(self):
        for people in (2, 4, 6, 8, 10, 12):
            for seats in range(1, people + 1):
                found = [one for one in many_arrangements(people) if seats % period(one) == 0]
                self.assertEqual(alike_many(people, seats), len(found), shown((people, seats)))


if __name__ == "__main__":
    unittest.main()
