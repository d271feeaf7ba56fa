"""The errors of the package, each with the values that it is created with."""


def copied(value):
    """The same value, with new lists in place of its lists, at any depth."""
    if isinstance(value, list):
        return [copied(item) for item in value]
    if isinstance(value, tuple):
        return tuple([copied(item) for item in value])
    return value


class BadText(ValueError):
    """The text is not the text of such a value."""

    def __init__(self, text):
        self.text = text


class BadLine(ValueError):
    """The line with this number is not written as it must be."""

    def __init__(self, number):
        self.number = number


class OtherPeople(ValueError):
    """The numbers of people are different."""

    def __init__(self):
        ValueError.__init__(self)


class Unfit(ValueError):
    """This known pair is not an arm of the arrangement."""

    def __init__(self, pair):
        # The caller may have passed a list, and may change it later.
        self.pair = copied(pair)


class Impossible(ValueError):
    """No arrangement fits the known pairs, as the evidence shows."""

    def __init__(self, evidence):
        self.evidence = copied(evidence)


class NoPerson(LookupError):
    """There is no such person."""

    def __init__(self, person):
        self.person = person


class NoArm(LookupError):
    """This is not the lesser person of an arm."""

    def __init__(self, person):
        self.person = person


class NoPlace(LookupError):
    """There is no such place."""

    def __init__(self, place):
        self.place = place


class NoNumber(LookupError):
    """There is no arrangement with this number."""

    def __init__(self, number):
        self.number = number


class NoOperation(LookupError):
    """There are not so many operations in effect."""

    def __init__(self, many):
        self.many = many


class Blocked(RuntimeError):
    """This exchange is not possible."""

    def __init__(self, pair):
        self.pair = copied(pair)


class TooMany(OverflowError):
    """There are so many arrangements, which is more than MOST."""

    def __init__(self, many):
        self.many = many


class Full(OverflowError):
    """There are so many people that nobody else can sit down."""

    def __init__(self, many):
        self.many = many
