import copy
import pickle
import unittest

from handshakes import errors

CROSS = ("cross", (0, 3), (1, 4))
ODD = ("odd", (1,))
NUMBERS = (0, 1, -1, 24, 10 ** 5000, -10 ** 5000)
PAIRS = ((0, 1), (4, 0), (-1, 10 ** 5000))

CASES = (
    (errors.BadText, ValueError, "text", ("", "-", "2 3 0 1", "a\nb")),
    (errors.BadLine, ValueError, "number", NUMBERS),
    (errors.Unfit, ValueError, "pair", PAIRS),
    (errors.Impossible, ValueError, "evidence", (CROSS, ODD)),
    (errors.NoPerson, LookupError, "person", NUMBERS),
    (errors.NoArm, LookupError, "person", NUMBERS),
    (errors.NoPlace, LookupError, "place", NUMBERS),
    (errors.NoNumber, LookupError, "number", NUMBERS),
    (errors.NoOperation, LookupError, "many", NUMBERS),
    (errors.Blocked, RuntimeError, "pair", PAIRS),
    (errors.TooMany, OverflowError, "many", NUMBERS),
    (errors.Full, OverflowError, "many", NUMBERS),
)
BASES = [(case[0], case[1]) for case in CASES] + [(errors.OtherPeople, ValueError)]


def raised(error):
    """The error that comes out when this one is raised."""
    try:
        raise error
    except Exception as caught:
        return caught


class Families(unittest.TestCase):
    def test_direct_subclasses(self):
        for kind, base in BASES:
            self.assertEqual(kind.__bases__, (base,))

    def test_of_no_other_class_of_the_package(self):
        for kind, base in BASES:
            for other, _ in BASES:
                self.assertEqual(issubclass(kind, other), kind is other)

    def test_defined_in_errors(self):
        for kind, base in BASES:
            self.assertEqual(kind.__module__, "handshakes.errors")
        defined = [value for value in vars(errors).values() if isinstance(value, type)]
        self.assertEqual(len(defined), len(BASES))

    def test_caught_by_the_builtin_class(self):
        for kind, base, name, values in CASES:
            with self.assertRaises(base):
                raise kind(values[0])
        with self.assertRaises(ValueError):
            raise errors.OtherPeople()


class Values(unittest.TestCase):
    def test_by_position_and_by_name(self):
        for kind, base, name, values in CASES:
            for value in values:
                for error in (kind(value), kind(**{name: value})):
                    self.assertEqual(vars(raised(error)), {name: value})
                    self.assertIs(type(getattr(error, name)), type(value))

    def test_no_other_arguments(self):
        for kind, base, name, values in CASES:
            with self.assertRaises(TypeError):
                kind()
            with self.assertRaises(TypeError):
                kind(values[0], values[0])
            with self.assertRaises(TypeError):
                kind(other=values[0])

    def test_other_people_has_no_value(self):
        self.assertEqual(vars(raised(errors.OtherPeople())), {})
        self.assertEqual(errors.OtherPeople().args, ())
        with self.assertRaises(TypeError):
            errors.OtherPeople(6)

    def test_errors_do_not_share_values(self):
        for kind, base, name, values in CASES:
            first, second = kind(values[0]), kind(values[1])
            self.assertEqual(getattr(first, name), values[0])
            self.assertEqual(getattr(second, name), values[1])

    def test_later_changes_of_a_list_have_no_effect(self):
        for kind in (errors.Unfit, errors.Blocked):
            pair = [0, 1]
            error = kind(pair)
            pair[0] = 9
            pair.append(2)
            self.assertEqual(list(error.pair), [0, 1])
        evidence = ["cross", [0, 3], (1, 4)]
        error = errors.Impossible(evidence)
        evidence[1][0] = 9
        del evidence[0]
        self.assertEqual([list(part) for part in error.evidence], [list("cross"), [0, 3], [1, 4]])

    def test_arguments_do_not_change(self):
        evidence = ["cross", [0, 3], (1, 4)]
        errors.Impossible(evidence)
        self.assertEqual(evidence, ["cross", [0, 3], (1, 4)])

    def test_copies_have_the_same_value(self):
        for kind, base, name, values in CASES:
            error = kind(values[0])
            for other in (copy.copy(error), copy.deepcopy(error), pickle.loads(pickle.dumps(error))):
                self.assertEqual((type(other), vars(other)), (kind, vars(error)))


if __name__ == "__main__":
    unittest.main()
