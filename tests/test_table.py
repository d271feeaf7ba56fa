import copy
import inspect
import unittest

from calls import Calls, listed, mixed, mixed_otherwise, outcome, raised, tupled
from handshakes.areas import areas
from handshakes.arrangements import arms, is_arrangement
from handshakes.errors import Blocked, Full, NoArm, NoOperation, NoPerson, NoPlace, OtherPeople
from handshakes.exchanges import exchanges
from handshakes.table import Table
from party import Party, numbers
from shapes import (BENT, FAR, FLAT, arrangements, facing, one_over_the_rest, same, shaped, shown, side_by_side,
                    two_halves)

AROUND = (5, 2, 1, 4, 3, 0)
FAILING = (("exchange", (0, 99)), ("exchange", (2, 0)), ("run", ([(0, 2), (9, 9)],)), ("go", ((1, 0),)), ("sit", (-1,)),
           ("sit", (99,)), ("leave", (-1,)), ("leave", (99,)))


def all_answers(table):
    """What a table answers to all queries but log."""
    return (table.arrangement(), table.arms(), table.exchanges(), table.areas(), table.operations(), len(table),
            repr(table))


def past_of(table):
    """The answers after each number of operations, and those of undoing everything."""
    states = [table.as_of(many).arrangement() for many in range(table.operations() + 1)]
    other = table.copy()
    undone = [other.arrangement()]
    while other.undo():
        undone.append(other.arrangement())
    return states, undone


class Examples(unittest.TestCase):
    def test_whole(self):
        t = Table(FLAT)
        found = t.exchange(0, 2), t.sit(1), t.arms(), t.leave(0), t.arrangement()
        self.assertTrue(same(found, ((3, 2, 1, 0, 5, 4), 8, [(0, 5), (1, 2), (3, 4), (6, 7)], 5, (1, 0, 3, 2, 5, 4))))
        self.assertEqual(outcome(t.leave, 6), raised(NoPerson, person=6))
        found = t.go((5, 2, 1, 4, 3, 0)), t.turn(1), t.arrangement(), t.undo(), t.operations(), repr(t)
        self.assertTrue(same(found, (2, True, (1, 0, 3, 2, 5, 4), True, 4, 'Table(6 people)')))


class Interface(unittest.TestCase):
    METHODS = {"__init__": "self arrangement", "exchange": "self one other", "run": "self some", "go": "self goal",
               "sit": "self place", "leave": "self person", "turn": "self seats", "undo": "self",
               "arrangement": "self", "arms": "self", "exchanges": "self", "areas": "self", "operations": "self",
               "as_of": "self many", "copy": "self", "log": "self", "__eq__": "self other", "__len__": "self",
               "__repr__": "self"}

    def test_methods_stand_in_the_class_itself(self):
        self.assertEqual(Table.__module__, "handshakes.table")
        for name, parameters in self.METHODS.items():
            self.assertIn(name, vars(Table))
            self.assertEqual(" ".join(inspect.signature(vars(Table)[name]).parameters), parameters)

    def test_arguments_by_name(self):
        table = Table(arrangement=FLAT)
        self.assertEqual(table.exchange(other=2, one=0), BENT)
        self.assertEqual(table.run(some=[(0, 1)]), 1)
        self.assertEqual(table.go(goal=AROUND), 2)
        self.assertEqual(table.sit(place=6), 8)
        self.assertEqual(table.leave(person=7), 6)
        self.assertIs(table.turn(seats=1), True)
        self.assertEqual(table.as_of(many=1).arrangement(), BENT)


class Start(unittest.TestCase):
    def check(self, table, arrangement):
        expected = (arrangement, arms(arrangement), exchanges(arrangement), areas(arrangement), 0, len(arrangement),
                    "Table(%d people)" % len(arrangement))
        self.assertTrue(same(all_answers(table), expected), shown(all_answers(table)))
        self.assertTrue(same(table.log(), []))

    def test_nobody(self):
        self.check(Table(), ())
        self.check(Table(()), ())
        self.check(Table([]), ())
        self.assertEqual(repr(Table()), "Table(0 people)")
        self.assertEqual(repr(Table((1, 0))), "Table(2 people)")

    def test_arrangements(self):
        for arrangement in [(1, 0)] + arrangements(6) + shaped(24) + shaped(26):
            self.check(Table(arrangement), arrangement)
            self.check(Table(list(arrangement)), arrangement)

    def test_a_list_that_is_changed_afterwards(self):
        given = list(FLAT)
        table = Table(given)
        given[0] = 99
        given.append(7)
        self.check(table, FLAT)
        given = list(FLAT)
        Table(given).exchange(0, 2)
        self.assertEqual(given, list(FLAT))


class Against(Calls, unittest.TestCase):
    """For tests that do the same to a table and to a party."""

    def begin(self, arrangement=()):
        self.table = Table(arrangement)
        self.party = Party(arrangement)

    def do(self, name, *given):
        """One operation on both; the outcome, and that only it and the log are changed where it fails."""
        before = all_answers(self.table), past_of(self.table)
        kept = copy.deepcopy(given)
        found = outcome(getattr(self.table, name), *given)
        expected = self.party.do(name, *kept)
        self.assertTrue(same(found, expected), shown((name, given, found, expected)))
        self.assertTrue(same(given, kept))
        if found[0] == "raised":
            self.assertTrue(same((all_answers(self.table), past_of(self.table)), before))
        self.look()
        return found

    def look(self):
        arrangement = self.party.arrangement()
        expected = (arrangement, arms(arrangement), exchanges(arrangement), areas(arrangement), len(self.party.past),
                    len(arrangement), "Table(%d people)" % len(arrangement))
        self.assertTrue(same(all_answers(self.table), expected))
        self.assertTrue(same(self.table.log(), self.party.calls))
        self.assertEqual(self.table, Table(arrangement))


class Exchange(Against):
    def test_every_pair_of_every_arrangement(self):
        for arrangement in arrangements(4) + arrangements(6):
            for one in range(-1, len(arrangement) + 1):
                for other in range(-1, len(arrangement) + 1):
                    self.begin(arrangement)
                    self.do("exchange", one, other)

    def test_nobody_and_two_people(self):
        for arrangement in ((), (1, 0)):
            for one, other in ((0, 0), (0, 1), (1, 0), (-1, 0), (0, FAR), (FAR, 0), (-FAR, FAR)):
                self.begin(arrangement)
                self.do("exchange", one, other)

    def test_many_people(self):
        for arrangement in shaped(24):
            for pair in exchanges(arrangement):
                self.begin(arrangement)
                self.assertEqual(self.do("exchange", *pair)[0], "returned")

    def test_what_is_wrong_first(self):
        for one, other, expected in ((9, -9, raised(NoArm, person=9)), (-9, 9, raised(NoArm, person=-9)),
                                     (0, 3, raised(NoArm, person=3)), (3, 0, raised(NoArm, person=3)),
                                     (1, 0, raised(Blocked, pair=(1, 0))), (0, 0, raised(Blocked, pair=(0, 0))),
                                     (1, 4, raised(Blocked, pair=(1, 4))), (4, 2, raised(NoArm, person=2))):
            self.begin(BENT)
            self.assertTrue(same(self.do("exchange", one, other), expected))


class Run(Against):
    def test_one_operation(self):
        self.begin(FLAT)
        self.do("run", [(0, 2), (0, 4), (1, 3)])
        self.assertEqual((self.table.operations(), self.table.arrangement()), (1, facing(6)))
        self.do("undo")
        self.assertEqual(self.table.arrangement(), FLAT)

    def test_no_pair(self):
        for arrangement in ((), (1, 0), BENT, facing(24)):
            self.begin(arrangement)
            self.assertEqual(self.do("run", []), ("returned", 0))
            self.assertEqual(self.table.operations(), 1)
            self.do("undo")

    def test_none_is_done_if_one_fails(self):
        for some, expected in (([(0, 2), (1, 4), (9, 9)], raised(Blocked, pair=(1, 4))),
                               ([(0, 2), (9, -9), (1, 4)], raised(NoArm, person=9)),
                               ([(0, 2), (2, 4)], raised(NoArm, person=2)),
                               ([(0, 2), (0, 1), (2, 0)], raised(Blocked, pair=(2, 0)))):
            self.begin(FLAT)
            self.assertTrue(same(self.do("run", some), expected))
            self.assertEqual((self.table.arrangement(), self.table.operations()), (FLAT, 0))

    def test_lists_and_tuples(self):
        some = [(0, 2), (0, 4)]
        for form in (listed, tupled, mixed, mixed_otherwise):
            table = Table(FLAT)
            self.assertEqual((table.run(form(some)), table.arrangement()), (2, AROUND))
            self.assertEqual(outcome(table.run, form([(2, 0)])), raised(NoArm, person=2))
            self.assertTrue(same(outcome(table.run, form([(3, 1)])), raised(Blocked, pair=(3, 1))))

    def test_three_hundred(self):
        self.begin(side_by_side(24))
        for many in (300, 301, 1000):
            some = [(0, 2), (0, 1)] * (many // 2) + [(2, 4)] * (many % 2)
            self.do("run", some)
            self.do("undo")

    def test_a_list_that_is_changed_afterwards(self):
        table = Table(FLAT)
        some = [[0, 2], [0, 4]]
        table.run(some)
        some[0][0] = 5
        some.clear()
        self.assertEqual((table.arrangement(), table.copy().arrangement()), (AROUND, AROUND))


class Go(Against):
    def test_every_two_arrangements(self):
        for people in (0, 2, 4, 6, 8):
            for one in arrangements(people):
                for goal in arrangements(people):
                    self.begin(one)
                    self.do("go", goal)

    def test_many_people(self):
        for one in shaped(24):
            for goal in shaped(24):
                self.begin(one)
                self.do("go", goal)
        self.begin(side_by_side(24))
        self.assertEqual(self.do("go", one_over_the_rest(24)), ("returned", 11))

    def test_nothing_to_do_is_in_effect(self):
        for one in ((), (1, 0), FLAT):
            self.begin(one)
            self.assertEqual(self.do("go", one), ("returned", 0))
            self.assertEqual(self.table.operations(), 1)

    def test_other_people(self):
        for one, goal in (((), (1, 0)), ((1, 0), ()), (FLAT, (1, 0)), (FLAT, facing(8)), (facing(24), facing(26))):
            self.begin(one)
            self.assertEqual(self.do("go", goal), raised(OtherPeople))

    def test_a_list_that_is_changed_afterwards(self):
        goal = list(BENT)
        table = Table(FLAT)
        self.assertEqual(table.go(goal), 1)
        goal[0] = 99
        self.assertTrue(same(table.arrangement(), BENT))
        table.turn(0)
        self.assertTrue(same(table.as_of(1).arrangement(), BENT))


class Sit(Against):
    def test_every_place(self):
        for people in (0, 2, 4, 6):
            for arrangement in arrangements(people):
                for place in range(-2, people + 3):
                    self.begin(arrangement)
                    self.do("sit", place)
                    self.do("undo")

    def test_first_and_last(self):
        self.begin()
        self.assertEqual(self.do("sit", 0), ("returned", 2))
        self.assertEqual(self.do("sit", 2), ("returned", 4))
        self.assertEqual(self.table.arrangement(), (1, 0, 3, 2))
        self.assertEqual(self.do("sit", 1), ("returned", 6))
        self.assertEqual(self.table.arrangement(), (3, 2, 1, 0, 5, 4))
        self.assertEqual(self.do("sit", 0), ("returned", 8))
        self.assertEqual(self.table.arrangement(), (1, 0, 5, 4, 3, 2, 7, 6))

    def test_places_that_are_not_there(self):
        for arrangement in [(), (1, 0), BENT] + shaped(22):
            for place in (-1, -2, len(arrangement) + 1, len(arrangement) + 2, FAR, -FAR):
                self.begin(arrangement)
                self.assertEqual(self.do("sit", place), raised(NoPlace, place=place))

    def test_a_full_table(self):
        for people in (24, 26):
            for place in (0, 1, people - 1, people):
                self.begin(facing(people))
                self.assertEqual(self.do("sit", place), raised(Full, many=people))
            for place in (-1, people + 1, FAR):
                self.begin(facing(people))
                self.assertEqual(self.do("sit", place), raised(NoPlace, place=place))
        self.begin(facing(22))
        self.assertEqual(self.do("sit", 22), ("returned", 24))
        self.assertEqual(self.do("sit", 0), raised(Full, many=24))
        self.do("leave", 3)
        self.assertEqual(self.do("sit", 0), ("returned", 24))


class Leave(Against):
    def test_every_person(self):
        for people in (2, 4, 6, 8):
            for arrangement in arrangements(people):
                for person in range(people):
                    self.begin(arrangement)
                    self.do("leave", person)
                    self.assertTrue(is_arrangement(self.table.arrangement()))
                    self.do("undo")

    def test_first_and_last_of_many(self):
        for arrangement in shaped(24) + shaped(26):
            for person in (0, 1, 11, 12, len(arrangement) - 1):
                self.begin(arrangement)
                self.do("leave", person)

    def test_until_nobody_is_left(self):
        self.begin(facing(24))
        for people in range(24, 0, -2):
            self.assertEqual(self.do("leave", people // 2), ("returned", people // 2 - 1))
        self.assertEqual(self.do("leave", 0), raised(NoPerson, person=0))
        self.assertEqual(len(self.table), 0)

    def test_people_who_are_not_there(self):
        for arrangement in ((), (1, 0), BENT, facing(24)):
            for person in (-1, -len(arrangement), len(arrangement), len(arrangement) + 1, FAR, -FAR):
                if person or not arrangement:
                    self.begin(arrangement)
                    self.assertEqual(self.do("leave", person), raised(NoPerson, person=person))


class Turn(Against):
    def test_all_numbers_of_seats(self):
        for arrangement in [()] + [(1, 0)] + arrangements(4) + arrangements(6) + shaped(24):
            people = len(arrangement)
            for seats in (0, 1, 2, 3, -1, -2, people, people + 1, -people, 5 * people + 2, people * FAR + 1, -FAR):
                self.begin(arrangement)
                self.do("turn", seats)
                self.assertEqual(self.table.operations(), 1)
                self.do("undo")

    def test_whether_it_changed(self):
        for arrangement, seats, expected in ((FLAT, 1, True), (FLAT, 2, False), (BENT, 3, False), (BENT, 2, True),
                                             ((), 1, False), ((1, 0), 1, False), (BENT, 0, False), (BENT, -3, False)):
            self.begin(arrangement)
            self.assertTrue(same(self.do("turn", seats), ("returned", expected)))


class Undo(Against):
    def test_nothing_to_undo(self):
        for arrangement in ((), (1, 0), FLAT):
            self.begin(arrangement)
            self.assertTrue(same(self.do("undo"), ("returned", False)))
            self.do("undo")
            self.assertEqual(self.table.log(), [("in", "undo"), ("out", "undo")] * 2)

    def test_each_operation(self):
        for name, given in (("exchange", (0, 2)), ("run", ([(0, 2)],)), ("run", ([],)), ("go", (AROUND,)),
                            ("go", (FLAT,)), ("sit", (3,)), ("leave", (5,)), ("turn", (1,)), ("turn", (0,))):
            self.begin(FLAT)
            self.do(name, *given)
            self.assertEqual(self.table.operations(), 1)
            self.assertTrue(same(self.do("undo"), ("returned", True)))
            self.assertEqual((self.table.arrangement(), self.table.operations()), (FLAT, 0))
            self.assertTrue(same(self.do("undo"), ("returned", False)))

    def test_failed_operations_are_not_taken_back(self):
        for name, given in FAILING:
            self.begin(FLAT)
            self.do("exchange", 0, 2)
            self.assertEqual(self.do(name, *given)[0], "raised", shown((name, given)))
            self.assertTrue(same(self.do("undo"), ("returned", True)))
            self.assertEqual(self.table.arrangement(), FLAT)

    def test_undo_is_not_taken_back(self):
        self.begin(FLAT)
        for name, given in (("exchange", (0, 2)), ("sit", (6,)), ("undo", ()), ("undo", ()), ("undo", ())):
            self.do(name, *given)
        self.assertEqual((self.table.arrangement(), self.table.operations()), (FLAT, 0))

    def test_another_operation_after_undo(self):
        self.begin(FLAT)
        for name, given in (("exchange", (0, 2)), ("undo", ()), ("exchange", (2, 4)), ("sit", (0,)), ("undo", ()),
                            ("undo", ()), ("turn", (1,)), ("leave", (0,)), ("undo", ())):
            self.do(name, *given)


class AsOf(Against):
    def many_done(self):
        self.begin(FLAT)
        states = [FLAT]
        for name, given in (("exchange", (0, 2)), ("turn", (0,)), ("sit", (6,)), ("leave", (99,)), ("leave", (0,)),
                            ("undo", ()), ("go", (facing(8),)), ("run", ([(0, 1), (0, 3)],)), ("turn", (-1,))):
            found = self.do(name, *given)
            if name == "undo":
                states.pop()
            elif found[0] == "returned":
                states.append(self.table.arrangement())
        return states

    def test_every_number_of_operations(self):
        states = self.many_done()
        self.assertEqual(self.table.operations(), len(states) - 1)
        log = self.table.log()
        for many, state in enumerate(states):
            other = self.table.as_of(many)
            self.assertTrue(same(all_answers(other), all_answers(Table(state))[:4] + (many,)
                                 + all_answers(Table(state))[5:]))
            self.assertEqual(other.log(), [])
            self.assertEqual(past_of(other), (states[:many + 1], states[many::-1]))
        self.assertEqual(self.table.log(), log)
        self.look()

    def test_beyond(self):
        self.many_done()
        log = self.table.log()
        many = self.table.operations()
        for wrong in (-1, -2, -many, -many - 1, many + 1, many + 2, FAR, -FAR):
            self.assertEqual(outcome(self.table.as_of, wrong), raised(NoOperation, many=wrong))
        self.assertEqual(self.table.log(), log)
        self.look()
        for wrong in (-1, 1, FAR):
            self.assertEqual(outcome(Table().as_of, wrong), raised(NoOperation, many=wrong))
        self.assertEqual(Table().as_of(0).arrangement(), ())

    def test_copy_is_as_of_all(self):
        states = self.many_done()
        other = self.table.copy()
        self.assertIsNot(other, self.table)
        self.assertEqual(other, self.table)
        self.assertEqual(all_answers(other), all_answers(self.table))
        self.assertEqual(past_of(other), (states, states[::-1]))
        self.assertEqual(other.log(), [])

    def test_nothing_done_to_one_changes_another(self):
        for first in (0, 1):
            self.many_done()
            kept = self.table
            others = [kept.copy(), kept.as_of(2), kept.as_of(0), kept.as_of(kept.operations())]
            before = [(all_answers(one), past_of(one), one.log()) for one in [kept] + others]
            changed = [kept] if first else others
            for one in changed:
                one.turn(1)
                one.sit(0)
                outcome(one.leave, 99)
                for times in range(3 * first + 2):
                    one.undo()
                one.leave(0)
                one.as_of(0).sit(0)
            for one, state in zip([kept] + others, before):
                if not any(one is other for other in changed):
                    self.assertTrue(same((all_answers(one), past_of(one), one.log()), state))

    def test_operations_on_a_copy_are_undone_there(self):
        table = Table(FLAT)
        table.exchange(0, 2)
        other = table.as_of(1)
        other.sit(0)
        self.assertEqual((other.operations(), table.operations()), (2, 1))
        self.assertEqual((other.undo(), other.undo(), other.undo()), (True, True, False))
        self.assertEqual((other.arrangement(), table.arrangement()), (FLAT, BENT))
        self.assertEqual(other.log(), [(side, name) for name in ("sit", "undo", "undo", "undo")
                                       for side in ("in", "out")])
        self.assertEqual(table.log(), [("in", "exchange"), ("out", "exchange")])


class Log(Against):
    def test_every_operation_and_failure(self):
        self.begin(FLAT)
        expected = []
        for name, given in FAILING + (("exchange", (0, 2)), ("run", ([],)), ("go", (FLAT,)), ("sit", (0,)),
                                      ("leave", (0,)), ("turn", (5,)), ("undo", ())) + FAILING:
            self.do(name, *given)
            expected += [("in", name), ("out", name)]
        self.assertTrue(same(self.table.log(), expected))

    def test_a_full_table(self):
        table = Table(facing(24))
        outcome(table.sit, 0)
        self.assertEqual(table.log(), [("in", "sit"), ("out", "sit")])

    def test_queries_are_not_in_it(self):
        table = Table(BENT)
        all_answers(table)
        table.as_of(0)
        outcome(table.as_of, 1)
        table.copy()
        table.log()
        self.assertEqual(table, Table(BENT))
        self.assertEqual(table.log(), [])


class Equality(unittest.TestCase):
    def test_tables(self):
        for one in [()] + arrangements(2) + arrangements(4) + arrangements(6):
            for other in [()] + arrangements(2) + arrangements(4) + arrangements(6):
                self.assertIs(Table(one) == Table(other), one == other)
                self.assertIs(Table(one) != Table(other), one != other)

    def test_whatever_was_done(self):
        table = Table(FLAT)
        table.exchange(0, 2)
        table.sit(3)
        table.undo()
        self.assertIs(table == Table(BENT), True)
        self.assertIs(Table(BENT) == table, True)
        self.assertIs(table == Table(FLAT), False)
        self.assertIs(table != table.as_of(0), True)
        self.assertIs(table == table, True)

    def test_nothing_else(self):
        for other in ((), FLAT, list(FLAT), 0, 6, None, True, False, "", "Table(6 people)", "Table(0 people)",
                      [Table(FLAT)], (Table(),), {}, Party(FLAT), object(), Table):
            for table in (Table(), Table(FLAT)):
                self.assertIs(table == other, False)
                self.assertIs(other == table, False)
                self.assertIs(table != other, True)


class Returned(Calls, unittest.TestCase):
    def test_lists_are_new(self):
        for arrangement in ((), (1, 0), BENT, facing(24)):
            table = Table(arrangement)
            outcome(table.sit, 0)
            for query in (table.arms, table.exchanges, table.areas, table.log):
                self.returns_new_lists(query)
        table = Table(BENT)
        table.log().append(("in", "sit"))
        table.arms().clear()
        self.assertEqual((table.log(), table.arms()), ([], arms(BENT)))


class LongLives(Against):
    """Operations of all kinds, right and wrong ones, on a table and on a party."""

    def one_step(self, number):
        people = len(self.table)
        kind = number % 16
        detail = number // 16
        place = detail % (people + 4) - 2
        if kind < 3:
            possible = self.table.exchanges()
            self.do("exchange", *(possible[detail % len(possible)] if possible else (0, 1)))
        elif kind == 3:
            self.do("exchange", place, detail // 50 % (people + 2) - 1)
        elif kind == 4:
            possible = self.table.exchanges()[:2]
            self.do("run", possible[detail % 2:])
        elif kind == 5:
            goals = shaped(people if detail % 3 else people + 2)
            self.do("go", goals[detail % len(goals)])
        elif kind < 10:
            self.do("sit", place)
        elif kind < 12:
            self.do("leave", place)
        elif kind < 14:
            self.do("turn", detail % 101 - 50)
        else:
            self.do("undo")

    def test_like_a_party_and_like_a_new_table(self):
        for seed in range(25):
            self.begin(shaped(seed % 5 * 6)[-1])
            row = numbers(seed)
            for step in range(70):
                self.one_step(next(row))
            states = [self.table.as_of(many).arrangement() for many in range(self.table.operations() + 1)]
            self.assertEqual(past_of(self.table), (states, states[::-1]))

    def test_sixty_operations_and_more(self):
        self.begin(two_halves(24))
        for step in range(70):
            self.do("turn", step)
        for step in range(71):
            self.assertEqual(self.do("undo"), ("returned", step < 70))
        self.assertEqual(self.table.arrangement(), two_halves(24))
        self.assertEqual(len(self.table.log()), 2 * 141)


if __name__ == "__main__":
    unittest.main()
