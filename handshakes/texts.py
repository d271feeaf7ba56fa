"""Texts: arrangements, known pairs and lists of exchanges, written and read."""

from handshakes.arrangements import is_arrangement
from handshakes.errors import BadText
from handshakes.known import is_known

NOTHING = "-"
MOST_DIGITS = 10


def words_text(words):
    """The words with one blank between, or the text of nothing."""
    return " ".join(words) if words else NOTHING


def words_in(text):
    """The words of a text; where blanks are amiss, some of them are empty."""
    return [] if text == NOTHING else text.split(" ")


def is_number_text(word):
    """Whether a number is written so: digits without a leading zero, and not too many."""
    if not word.isascii() or not word.isdigit() or len(word) > MOST_DIGITS:
        return False
    return word == "0" or not word.startswith("0")


def are_number_texts(words):
    """Whether each of the words is the text of a number."""
    return all([is_number_text(word) for word in words])


def pairs_text(pairs, sign):
    """The text of pairs of numbers with this sign between the two."""
    return words_text([f"{a}{sign}{b}" for a, b in pairs])


def is_pair_text(word, sign):
    """Whether a pair of numbers is written so, with this sign between."""
    parts = word.split(sign)
    return len(parts) == 2 and are_number_texts(parts)


def pairs_in(text, sign):
    """The list of the pairs with that text, None if there is none."""
    words = words_in(text)
    if not all([is_pair_text(word, sign) for word in words]):
        return None
    parted = [word.split(sign) for word in words]
    return [(int(a), int(b)) for a, b in parted]


def arrangement_text(arrangement):
    """The text of an ARRANGEMENT."""
    return words_text([str(partner) for partner in arrangement])


def known_text(known):
    """The text of KNOWN."""
    return pairs_text(known, "-")


def exchanges_text(some):
    """The text of a list of pairs of numbers."""
    return pairs_text(some, ":")


def arrangement_in(text):
    """The ARRANGEMENT with that text."""
    words = words_in(text)
    if not are_number_texts(words):
        raise BadText(text)
    arrangement = tuple([int(word) for word in words])
    if not is_arrangement(arrangement):
        raise BadText(text)
    return arrangement


def known_in(text):
    """The KNOWN, for any number of people, with that text."""
    pairs = pairs_in(text, "-")
    if pairs is None:
        raise BadText(text)
    # So many people that all numbers in the text are people.
    people = max([person + 1 for pair in pairs for person in pair], default=0)
    if not is_known(people, tuple(pairs)):
        raise BadText(text)
    return tuple(pairs)


def exchanges_in(text):
    """The list of the pairs of numbers with that text."""
    pairs = pairs_in(text, ":")
    if pairs is None:
        raise BadText(text)
    return pairs
