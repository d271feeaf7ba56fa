import itertools
import unittest

from calls import Calls, outcome, raised
from handshakes.areas import area_of, areas, by_areas
from handshakes.errors import NoPlace
from handshakes.exchanges import exchanged, exchanges
from shapes import (BENT, FAR, FLAT, arrangements, facing, one_over_the_rest, partitions, same, shaped, shown,
                    side_by_side)


def parted(arrangement):
    """The areas by the definition: two spaces are in the same one if no arm parts them."""
    pairs = [(a, b) for a, b in enumerate(arrangement) if a < b]
    groups = {}
    for space in range(len(arrangement)):
        groups.setdefault(tuple(a <= space < b for a, b in pairs), []).append(space)
    return sorted(tuple(group) for group in groups.values())


class Examples(unittest.TestCase):
    def test_areas(self):
        found = areas(FLAT), areas(BENT), area_of(BENT, 5)
        self.assertTrue(same(found, ([(0,), (1, 3, 5), (2,), (4,)], [(0, 2), (1,), (3, 5), (4,)], (3, 5))))

    def test_by_areas(self):
        found = (by_areas(6, [(0, 2), (1,), (3, 5), (4,)]) == BENT, by_areas(4, [(0, 1), (2, 3)]),
                 by_areas(2, [(1,), (0,)]))
        self.assertTrue(same(found, (True, None, (1, 0))))


class Areas(Calls, unittest.TestCase):
    def test_nobody_and_two_people(self):
        self.returns(areas, {"arrangement": ()}, [])
        self.returns(areas, {"arrangement": (1, 0)}, [(0,), (1,)])

    def test_every_small_arrangement(self):
        for people in (0, 2, 4, 6, 8, 10):
            for arrangement in arrangements(people):
                found = parted(arrangement)
                self.returns(areas, {"arrangement": arrangement}, found)
                self.assertEqual(len(found), people // 2 + 1 if people else 0)
                for area in found:
                    self.assertEqual(len({space % 2 for space in area}), 1)

    def test_many_people(self):
        for people in (22, 24, 26, 60):
            for arrangement in shaped(people):
                self.returns(areas, {"arrangement": arrangement}, parted(arrangement))
        self.returns(areas, {"arrangement": side_by_side(24)},
                     sorted([(i,) for i in range(0, 24, 2)] + [tuple(range(1, 24, 2))]))
        self.returns(areas, {"arrangement": facing(24)}, [(i, 22 - i) for i in range(11)] + [(11,), (23,)])

    def test_an_exchange_parts_one_area_and_joins_two_others(self):
        for arrangement in arrangements(8):
            before = areas(arrangement)
            for exchange in exchanges(arrangement):
                after = areas(exchanged(arrangement, exchange))
                gone = sorted(len(area) for area in before if area not in after)
                new = sorted(len(area) for area in after if area not in before)
                self.assertEqual((len(gone), len(new)), (3, 3))
                self.assertEqual(sum(gone), sum(new))

    def test_returned_lists_are_new(self):
        for arrangement in ((), (1, 0), FLAT, BENT, facing(24)):
            self.returns_new_lists(areas, arrangement)
            self.returns_new_lists(areas, list(arrangement))


class AreaOf(Calls, unittest.TestCase):
    def test_every_space_of_small_arrangements(self):
        for people in (2, 4, 6, 8):
            for arrangement in arrangements(people):
                for area in parted(arrangement):
                    for place in area:
                        self.returns(area_of, {"arrangement": arrangement, "place": place}, area)

    def test_every_space_of_many_people(self):
        for arrangement in shaped(24) + shaped(26):
            for area in parted(arrangement):
                for place in area:
                    self.assertTrue(same(area_of(arrangement, place), area))

    def test_spaces_that_are_not_there(self):
        for arrangement in [(), (1, 0), FLAT, BENT] + shaped(24):
            people = len(arrangement)
            for place in (-1, -2, -people, -people - 1, people, people + 1, 2 * people + 3, FAR, -FAR):
                if not 0 <= place < people:
                    self.raises(area_of, {"arrangement": arrangement, "place": place}, NoPlace, place=place)

    def test_nobody_has_no_space(self):
        self.assertEqual(outcome(area_of, (), 0), raised(NoPlace, place=0))


class ByAreas(Calls, unittest.TestCase):
    def none(self, people, some):
        self.returns(by_areas, {"people": people, "some": some}, None)

    def test_every_way_to_part_the_spaces(self):
        for people in (2, 4, 6, 8):
            wanted = {tuple(parted(arrangement)): arrangement for arrangement in arrangements(people)}
            found = 0
            for groups in partitions(list(range(people))):
                expected = wanted.get(tuple(sorted(groups)))
                self.assertTrue(same(by_areas(people, groups), expected), shown((people, groups)))
                found += expected is not None
            self.assertEqual(found, len(wanted))

    def test_the_order_does_not_matter(self):
        for arrangement in arrangements(4) + arrangements(6):
            for some in itertools.permutations(parted(arrangement)):
                turned = [area[::-1] for area in some]
                rolled = [area[1:] + area[:1] for area in some]
                for told in (list(some), turned, rolled):
                    self.returns(by_areas, {"people": len(arrangement), "some": told}, arrangement)

    def test_every_order_within_one(self):
        for order in itertools.permutations((1, 3, 5)):
            self.returns(by_areas, {"people": 6, "some": [(4,), order, (0,), (2,)]}, FLAT)

    def test_many_people(self):
        for arrangement in shaped(24) + shaped(26) + shaped(60):
            self.returns(by_areas, {"people": len(arrangement), "some": parted(arrangement)[::-1]}, arrangement)

    def test_one_space_elsewhere(self):
        for arrangement in [FLAT, BENT, facing(24), one_over_the_rest(24)]:
            people = len(arrangement)
            told = parted(arrangement)
            for at, area in enumerate(told):
                for space in area:
                    rest = told[:at] + [tuple(s for s in area if s != space)] + told[at + 1:]
                    self.none(people, rest)
                    self.none(people, rest + [(space,)])
                    self.none(people, [other for other in rest if other])

    def test_other_numbers_of_people(self):
        for arrangement in (FLAT, BENT, side_by_side(24)):
            for people in (2, 4, 8, 22, 26):
                self.none(people, parted(arrangement))

    def test_no_areas_and_empty_areas(self):
        for people in (2, 4, 24):
            self.none(people, [])
            self.none(people, [()])
            self.none(people, [(), ()])
        self.none(2, [(0,), (1,), ()])
        self.none(2, [(), (0,), (1,)])
        self.none(6, parted(BENT) + [()])
        self.none(6, [()] + parted(FLAT) + [()])
        self.none(24, parted(facing(24)) + [()])

    def test_a_space_told_twice(self):
        self.none(2, [(0,), (1,), (0,)])
        self.none(2, [(0, 0), (1,)])
        self.none(2, [(0,), (0,)])
        self.none(2, [(1, 1), (0, 0)])
        self.none(6, [(0, 2), (1,), (3, 5), (4,), (1,)])
        self.none(6, [(0, 2, 2), (1,), (3, 5), (4,)])
        self.none(6, [(0, 2), (1,), (3, 5, 1), (4,)])
        self.none(6, [(0, 2), (1,), (3, 5), (0, 2), (4,)])
        self.none(6, parted(BENT) * 2)
        self.none(6, parted(BENT) * 100)

    def test_spaces_that_are_not_there(self):
        self.none(2, [(0,), (2,)])
        self.none(2, [(-1,), (0,)])
        self.none(2, [(-1,), (-2,)])
        self.none(2, [(0,), (1,), (2,)])
        self.none(6, [(0, 2), (1,), (3, -1), (4,)])
        self.none(6, [(0, 2), (1,), (3, 11), (4,)])
        self.none(6, [(0, 2), (7,), (3, 5), (4,)])
        self.none(6, [(0, 2), (1,), (3, 5), (FAR,)])
        self.none(6, [(0, 2), (1,), (3, 5), (4, -FAR)])
        self.none(6, [(6, 8), (7,), (9, 11), (10,)])
        self.none(6, [tuple(space - 6 for space in area) for area in parted(BENT)])

    def test_spaces_not_told(self):
        self.none(6, [(0, 2), (1,), (3, 5)])
        self.none(6, [(0, 2), (1,), (5,), (4,)])
        self.none(2, [(0,)])

    def test_areas_that_cannot_be(self):
        self.none(2, [(0, 1)])
        self.none(4, [(0, 2), (1, 3)])
        self.none(4, [(0,), (1,), (2,), (3,)])
        self.none(6, [(0, 3), (1,), (2,), (4,), (5,)])
        self.none(6, [(0, 1, 2, 3, 4, 5)])
        self.none(8, [(0, 4), (2, 6), (1,), (3,), (5,), (7,)])
        self.none(8, [(0, 2, 4), (1,), (3, 5, 7), (6,)])

    def test_fewer_than_two_people_have_no_spaces_of_others(self):
        for people in (0, 1):
            self.none(people, [(0,)] if not people else [(0,), (1,)])
            self.none(people, [(0, 1)])
            self.none(people, [()])

    def test_long_lists(self):
        self.none(24, [(i,) for i in range(1000)])
        self.none(24, [tuple(range(1000))])
        self.none(24, [()] * 1000)


if __name__ == "__main__":
    unittest.main()
