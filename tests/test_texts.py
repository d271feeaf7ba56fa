import itertools
import re
import unittest

from calls import Calls, outcome, raised
from handshakes.errors import BadText
from handshakes.exchanges import exchanges
from handshakes.known import is_known
from handshakes.texts import (arrangement_in, arrangement_text, exchanges_in, exchanges_text, known_in, known_text)
from shapes import BENT, FLAT, all_known, arrangements, facing, fits_definition, same, shaped, shown, side_by_side

NUMBER = r"(0|[1-9][0-9]{0,9})"
ASCII = [chr(code) for code in range(128)]
CASES = (
    (arrangement_in, arrangement_text, "1 0", (1, 0)),
    (known_in, known_text, "0-3 1-2", ((0, 3), (1, 2))),
    (exchanges_in, exchanges_text, "0:2 4:0", [(0, 2), (4, 0)]),
)


def parted(text, sign):
    """The pairs of numbers with that text, None if it is not written so."""
    word = NUMBER + sign + NUMBER
    if text == "-":
        return []
    if not re.fullmatch("%s( %s)*" % (word, word), text):
        return None
    return [tuple(int(number) for number in word.split(sign)) for word in text.split(" ")]


def wanted_arrangement(text):
    if text == "-":
        return ("returned", ())
    if re.fullmatch("%s( %s)*" % (NUMBER, NUMBER), text):
        found = tuple(int(word) for word in text.split(" "))
        if fits_definition(found):
            return ("returned", found)
    return raised(BadText, text=text)


def wanted_known(text):
    pairs = parted(text, "-")
    told = [person for pair in pairs or [] for person in pair]
    if pairs is None or pairs != sorted(pairs) or len(set(told)) < len(told) or any(a >= b for a, b in pairs):
        return raised(BadText, text=text)
    return ("returned", tuple(pairs))


def wanted_exchanges(text):
    pairs = parted(text, ":")
    return raised(BadText, text=text) if pairs is None else ("returned", pairs)


class Examples(unittest.TestCase):
    def test_texts(self):
        found = (arrangement_text(BENT), known_text(((0, 3), (1, 2))), exchanges_text([(0, 2), (0, 4)]),
                 arrangement_in("-"))
        self.assertTrue(same(found, ('3 2 1 0 5 4', '0-3 1-2', '0:2 0:4', ())))

    def test_pairs(self):
        self.assertTrue(same((known_in("0-2 1-3"), exchanges_in("4:0")), (((0, 2), (1, 3)), [(4, 0)])))

    def test_bad_text(self):
        self.assertEqual(outcome(arrangement_in, "2 3 0 1"), raised(BadText, text="2 3 0 1"))


class Written(Calls, unittest.TestCase):
    def test_arrangements(self):
        self.returns(arrangement_text, {"arrangement": ()}, "-")
        self.returns(arrangement_text, {"arrangement": (1, 0)}, "1 0")
        for people in (0, 2, 4, 6, 8, 24, 26, 200):
            for arrangement in arrangements(people) if people < 10 else shaped(people):
                text = " ".join(str(partner) for partner in arrangement) or "-"
                self.returns(arrangement_text, {"arrangement": arrangement}, text)
                self.returns(arrangement_in, {"text": text}, arrangement)

    def test_known(self):
        self.returns(known_text, {"known": ()}, "-")
        self.returns(known_text, {"known": ((0, 1),)}, "0-1")
        for known in all_known(6) + [tuple((i, i + 12) for i in range(12)), tuple((i, 23 - i) for i in range(12))]:
            text = " ".join("%d-%d" % pair for pair in known) or "-"
            self.returns(known_text, {"known": known}, text)
            self.returns(known_in, {"text": text}, known)

    def test_exchanges(self):
        self.returns(exchanges_text, {"some": []}, "-")
        for some in ([(0, 2)], [(4, 0)], [(0, 0)], [(7, 7), (7, 7)], [(1, 0), (0, 1)], [(9999999999, 0)],
                     exchanges(FLAT), exchanges(side_by_side(24)), [(0, 2), (0, 1)] * 150, [(22, 10)] * 1000):
            text = " ".join("%d:%d" % pair for pair in some) or "-"
            self.returns(exchanges_text, {"some": some}, text)
            self.returns(exchanges_in, {"text": text}, some)


class Read(Calls, unittest.TestCase):
    def check(self, text):
        for function, wanted in ((arrangement_in, wanted_arrangement), (known_in, wanted_known),
                                 (exchanges_in, wanted_exchanges)):
            found = outcome(function, text)
            self.assertTrue(same(found, wanted(text)), "%s: %s" % (function.__name__, shown((text, found))))

    def test_every_short_text(self):
        for length in range(7):
            for signs in itertools.product("0 1-:", repeat=length):
                self.check("".join(signs))

    def test_every_text_of_a_few_words(self):
        words = ["0", "1", "2", "3", "10", "01", "", "-", "0-1", "2-3", "1-2", "0-3", "0:1", "3:2", "1:1"]
        for many in range(5):
            for chosen in itertools.product(words, repeat=many):
                self.check(" ".join(chosen))

    def test_every_order_of_numbers(self):
        for people in (2, 4, 5, 6):
            for numbers in itertools.permutations(range(people)):
                self.check(" ".join(str(number) for number in numbers))

    def test_every_character_everywhere(self):
        for function, write, text, value in CASES:
            for at in range(len(text) + 1):
                for sign in ASCII:
                    self.check(text[:at] + sign + text[at:])
                    self.check(text[:at] + sign + text[at + 1:])

    def test_every_character_alone(self):
        for sign in ASCII:
            self.check(sign)
            self.check("-" + sign)
            self.check(sign + "-")
            self.check("0" + sign + "1")

    def test_one_character_missing(self):
        for text in ("3 2 1 0 5 4", "11 10 9 8 7 6 5 4 3 2 1 0", "0-3 1-2 10-11", "0:2 10:4", "-"):
            for at in range(len(text)):
                self.check(text[:at] + text[at + 1:])

    def test_every_way_to_call(self):
        for function, write, text, value in CASES:
            self.returns(function, {"text": text}, value)
            self.returns(function, {"text": "-"}, () if function is not exchanges_in else [])
            for bad in ("", " ", "--", "0", "- -", " -", "- ", "-\n", text + " ", " " + text, text.replace(" ", "  "),
                        text + "\n", "\n" + text, text.replace(" ", "\n"), text.replace(" ", "\t"), text + " -",
                        text + ",", text.replace("0", "00"), text.replace("0", "+0"), text.replace("0", "-0"),
                        text.replace("0", "0_0"), text.replace("0", "a"), text.replace(" ", ""), "nobody"):
                self.raises(function, {"text": bad}, BadText, text=bad)

    def test_returned_lists_are_new(self):
        for text in ("-", "0:1", "0:2 4:0"):
            self.returns_new_lists(exchanges_in, text)


class Numbers(Calls, unittest.TestCase):
    def test_zero(self):
        self.returns(exchanges_in, {"text": "0:0"}, [(0, 0)])
        self.returns(known_in, {"text": "0-1"}, ((0, 1),))
        self.raises(arrangement_in, {"text": "0"}, BadText, text="0")
        for zero in ("00", "000", "0000000000", "+0", "-0", "0.0", "0x0", "1e1", "0b1"):
            for text in (zero + ":1", "1:" + zero, zero + "-1", "1-" + zero, "1 " + zero, zero + " 1"):
                for function in (arrangement_in, known_in, exchanges_in):
                    self.raises(function, {"text": text}, BadText, text=text)

    def test_leading_zeros(self):
        for text in ("01 0", "1 00", "01 00"):
            self.raises(arrangement_in, {"text": text}, BadText, text=text)
        for text in ("00-1", "0-01", "0-1 02-3", "0-1 2-03"):
            self.raises(known_in, {"text": text}, BadText, text=text)
        for text in ("00:1", "0:01", "0:1 02:3", "01:02"):
            self.raises(exchanges_in, {"text": text}, BadText, text=text)

    def test_ten_and_eleven_digits(self):
        for digits in range(1, 11):
            for number in (10 ** digits - 1, 10 ** (digits - 1)):
                self.returns(exchanges_in, {"text": "%d:0" % number}, [(number, 0)])
                self.returns(exchanges_in, {"text": "0:%d" % number}, [(0, number)])
                self.returns(known_in, {"text": "0-%d" % number}, ((0, number),))
        self.returns(known_in, {"text": "9999999998-9999999999"}, ((9999999998, 9999999999),))
        for number in ("10000000000", "99999999999", "00000000001", "1" * 20, "9" * 5000):
            for text in ("0:" + number, number + ":0"):
                self.raises(exchanges_in, {"text": text}, BadText, text=text)
            for text in ("0-" + number, number + "-0", number + "-" + number[:-1] + "9"):
                self.raises(known_in, {"text": text}, BadText, text=text)
            for text in (number, "1 0 " + number, number + " 0"):
                self.raises(arrangement_in, {"text": text}, BadText, text=text)
        self.raises(arrangement_in, {"text": "9999999999 0"}, BadText, text="9999999999 0")

    def test_whatever_the_bounds(self):
        for people in (24, 26, 100, 2000):
            for arrangement in (side_by_side(people), facing(people)):
                self.assertEqual(arrangement_in(arrangement_text(arrangement)), arrangement)
            known = tuple((i, people - 1 - i) for i in range(people // 2))
            self.assertEqual(known_in(known_text(known)), known)
            self.assertTrue(is_known(people, known))
        some = [(i, i * i) for i in range(3000)]
        self.assertEqual(exchanges_in(exchanges_text(some)), some)


class NoSuchValue(Calls, unittest.TestCase):
    def test_arrangements(self):
        for text in ("2 3 0 1", "0", "0 1", "1 0 2", "1 2 0", "1 0 3", "2 1 0", "1 1", "0 0", "3 2 1 4", "1 0 0 1"):
            self.raises(arrangement_in, {"text": text}, BadText, text=text)

    def test_known(self):
        for text in ("1-0", "0-0", "2-3 0-1", "0-1 0-1", "0-1 1-2", "0-2 1-2", "0-1 0-2", "0-3 2-1", "0-1 4-5 2-3"):
            self.raises(known_in, {"text": text}, BadText, text=text)
        self.returns(known_in, {"text": "0-3 1-4 2-5"}, ((0, 3), (1, 4), (2, 5)))
        self.returns(known_in, {"text": "0-2"}, ((0, 2),))
        self.returns(known_in, {"text": "7-100"}, ((7, 100),))

    def test_signs_of_the_others(self):
        for text in ("0:1", "0 1", "0-1-2", "0--1", "-0-1", "0-1-", "0-", "-1", "0 - 1", "0-1,2-3", "0-1:2"):
            self.raises(known_in, {"text": text}, BadText, text=text)
        for text in ("0-1", "0 1", "0:1:2", "0::1", ":0:1", "0:1:", "0:", ":1", ":", "0 : 1", "0:1,2:3", "0:1-2"):
            self.raises(exchanges_in, {"text": text}, BadText, text=text)


if __name__ == "__main__":
    unittest.main()
