"""Calls of a function in every way in which the document allows it."""

import copy

from shapes import same, shown


def listed(value):
    """The value with a list in place of each tuple."""
    return [listed(item) for item in value] if isinstance(value, (list, tuple)) else value


def tupled(value):
    """The value with a tuple in place of each list."""
    return tuple(tupled(item) for item in value) if isinstance(value, (list, tuple)) else value


def mixed(value):
    """The value with lists and tuples inside one another."""
    return [tupled(item) for item in value] if isinstance(value, (list, tuple)) else value


def mixed_otherwise(value):
    return tuple(listed(item) for item in value) if isinstance(value, (list, tuple)) else value


def outcome(function, *given, **named):
    """What a call returns, or the class and the values of what it raises."""
    try:
        return ("returned", function(*given, **named))
    except (ValueError, LookupError, RuntimeError, OverflowError) as error:
        return ("raised", error.__class__.__name__, sorted(vars(error).items()))


def raised(kind, **values):
    """The outcome of a call that raises such an error."""
    return ("raised", kind.__name__, sorted(values.items()))


class Calls:
    """For a TestCase: one call, made in every way, always with the same outcome."""

    def expect(self, function, given, expected):
        """given: a dict of all arguments, in the order of the parameters."""
        for form in (copy.deepcopy, listed, tupled, mixed, mixed_otherwise):
            # A parameter called thing is the exception: it means exactly what it is.
            made = {name: copy.deepcopy(value) if name == "thing" else form(value)
                    for name, value in given.items()}
            before = copy.deepcopy(made)
            for found in (outcome(function, *made.values()), outcome(function, **made)):
                self.assertTrue(same(found, expected),
                                "%s%s: %s, not %s" % (function.__name__, shown(before), shown(found), shown(expected)))
            self.assertTrue(same(list(made.values()), list(before.values())), shown(before))

    def returns(self, function, given, value):
        self.expect(function, given, ("returned", value))

    def raises(self, function, given, kind, **values):
        self.expect(function, given, raised(kind, **values))

    def returns_new_lists(self, function, *given):
        """Whatever the caller does with the returned list, a later call returns the same."""
        first = function(*given)
        self.assertIsInstance(first, list)
        expected = copy.deepcopy(first)
        first.append("more")
        first.reverse()
        self.assertTrue(same(function(*given), expected))
        first.clear()
        self.assertTrue(same(function(*given), expected))
