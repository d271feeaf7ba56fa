import itertools
import unittest

from calls import Calls, outcome, raised
from handshakes.errors import BadLine
from handshakes.sheet import answers
from party import Party, numbers
from shapes import (BENT, FLAT, arrangements, crosses, facing, fits_definition, many_arrangements, one_over_the_rest,
                    same, shaped, shown, side_by_side)

EXAMPLE = ("table 1 0 3 2 5 4\nmoves\nswap 0 2\nareas\nsit 1\narms\nleave 0\nshow\nto 5 2 1 4 3 0\nrings 1 0\n"
           "many 0-1\nmany 0-6\nturn 1\nundo")

# Lines that may stand behind the first one.
RIGHT = ("swap 0 2", "swap 9999999999 0", "run -", "run 0:2", "run 4:0 7:7", "go -", "go 1 0", "go 3 2 1 0 5 4",
         "sit 0", "sit 9999999999", "leave 0", "leave 99", "turn 0", "turn 9999999999", "undo", "show", "arms", "moves",
         "areas", "to -", "to 1 0", "rings -", "rings 1 0 3 2", "many -", "many 0-1", "many 0-2 1-3",
         "many 5-9999999999", "go " + " ".join(str(i) for i in facing(26)),
         "to " + " ".join(str(i) for i in facing(100)))

NO_NUMBER = ("", "-", "-1", "+1", "00", "01", "1.0", "a", "x1", "10000000000", "1,", "1 ", " 1", "1_0", "0x1")
NO_ARRANGEMENT = ("", "0", "2 3 0 1", "1 0 2", "0 1", "1  0", " 1 0", "1 0 ", "01 0", "- -", "-1 0", "1:0", "1-0", "a",
                  "1 0\t", "10000000000 0", "1 0 -", "() ", "none")
NO_EXCHANGES = ("", "0", "0 2", "0-2", "0:", ":2", "0:2:4", "0:2  2:4", "0:2 ", " 0:2", "00:2", "0:02", "a:b", "0::2",
                "0:-2", "0:10000000000", "0:2,2:4", "[]", "- -", "0:2 -")
NO_KNOWN = ("", "0", "0 1", "0:1", "1-0", "0-0", "0-1 0-1", "0-1 1-2", "2-3 0-1", "0-1  2-3", "0-1 ", " 0-1", "00-1",
            "0-01", "0-", "-1", "0--1", "0-1-2", "0-10000000000", "a-b", "0-1,2-3", "- -", "0-1 -")


def wrong_lines():
    """Lines of all kinds that are not written as they must be, wherever they stand."""
    found = [" ", "-", "0", "1 0", "0:2", "x", "nobody", "#", "swap0 2", "Swap 0 2", "SHOW", "error", "answers",
             "exchange 0 2", "exchanges", "log", "copy", "period", "as_of 0", "operations", "move", "arm", "area",
             "ring", "Undo", "help", "show,", "show;undo", "undo\tundo", "table"]
    for word in ("undo", "show", "arms", "moves", "areas"):
        found += [word + end for end in (" ", "  ", " -", " 0", " 1 0", "s", word, "\t", "\r")]
        found += [" " + word, word[:-1]]
    for word in ("sit", "leave", "turn"):
        found += [word, word + "0", word + "  0", word + " 0 0", word + "\t0", " " + word + " 0", word + " 0:0",
                  word + ":0"]
        found += [word + " " + number for number in NO_NUMBER]
    found += ["swap", "swap 0", "swap 0 2 4", "swap 0  2", "swap  0 2", "swap 0:2", "swap 0-2", "swap\t0 2",
              "swap 0\t2"]
    for number in NO_NUMBER:
        found += ["swap %s 0" % number, "swap 0 %s" % number, "swap %s %s" % (number, number)]
    for word in ("go", "to", "rings"):
        found += [word, word + "1 0", word + "-", word + "  1 0", " " + word + " 1 0", word + "\t1 0", word + "s 1 0"]
        found += [word + " " + text for text in NO_ARRANGEMENT]
    found += ["run", "run0:2", "run-", "run  0:2", " run 0:2", "run\t0:2"] + ["run " + text for text in NO_EXCHANGES]
    found += ["many", "many0-1", "many-", "many  0-1", " many 0-1"] + ["many " + text for text in NO_KNOWN]
    return found


# Lines that are wrong as the first one, those that are right elsewhere not included.
WRONG_FIRST = (["table", "table1 0", "table-", "table  1 0", " table 1 0", "Table 1 0", "tables 1 0", "table\t1 0",
                "tabl 1 0", "table 1 0\r", "table:1 0", "table " + " ".join(str(i) for i in facing(26)),
                "table " + " ".join(str(i) for i in side_by_side(100))] + ["table " + text for text in NO_ARRANGEMENT])


def text_of(arrangement):
    return " ".join(str(partner) for partner in arrangement) or "-"


def rings_between(one, other):
    groups = [{i} for i in range(len(one))]
    for a, b in list(enumerate(one)) + list(enumerate(other)):
        touched = [group for group in groups if a in group or b in group]
        groups = [group for group in groups if group not in touched] + [set().union(*touched)]
    return len(groups)


def areas_text(arrangement):
    """The areas by the definition: two spaces are in the same one if no arm parts them."""
    groups = {}
    for space in range(len(arrangement)):
        key = tuple(a <= space < b for a, b in enumerate(arrangement) if a < b)
        groups.setdefault(key, []).append(space)
    return ", ".join(" ".join(str(space) for space in group) for group in sorted(groups.values())) or "-"


def moves_text(arrangement):
    found = []
    for pair in itertools.combinations(range(len(arrangement)), 2):
        if Party(arrangement).exchange(*pair)[0] == "returned":
            found.append("%d:%d" % pair)
    return " ".join(found) or "-"


def many_text(people, pairs):
    if any(person >= people for pair in pairs for person in pair):
        return "error NoPerson"
    return str(sum(all(one[a] == b for a, b in pairs) for one in many_arrangements(people)))


def worded(found):
    """The answer for what an operation of a party returns or raises."""
    if found[0] == "raised":
        return "error " + found[1]
    if isinstance(found[1], bool):
        return "yes" if found[1] else "no"
    return text_of(found[1]) if isinstance(found[1], tuple) else str(found[1])


def expected_answer(party, line):
    word, *rest = line.split(" ")
    rest = [] if rest == ["-"] else rest
    now = party.arrangement()
    if word == "swap":
        return worded(party.do("exchange", int(rest[0]), int(rest[1])))
    if word == "run":
        return worded(party.do("run", [tuple(int(i) for i in pair.split(":")) for pair in rest]))
    if word == "go":
        return worded(party.do("go", tuple(int(i) for i in rest)))
    if word in ("sit", "leave", "turn", "undo"):
        return worded(party.do(word, *[int(i) for i in rest]))
    if word in ("to", "rings"):
        other = tuple(int(i) for i in rest)
        if len(other) != len(now):
            return "error OtherPeople"
        found = rings_between(now, other)
        return str(found if word == "rings" else len(now) // 2 - found)
    if word == "many":
        return many_text(len(now), [tuple(int(i) for i in pair.split("-")) for pair in rest])
    return {"show": text_of(now), "arms": " ".join("%d-%d" % arm for arm in party.arms()) or "-",
            "moves": moves_text(now), "areas": areas_text(now)}[word]


def expected_answers(arrangement, lines):
    party = Party(arrangement)
    return [expected_answer(party, line) for line in lines]


class Examples(unittest.TestCase):
    def test_answers(self):
        self.assertTrue(same(answers(EXAMPLE), [
            '0:2 0:4 2:4', '3 2 1 0 5 4', '0 2, 1, 3 5, 4', '8', '0-5 1-2 3-4 6-7', '5', '1 0 3 2 5 4', '2',
            'error OtherPeople', '2', 'error NoPerson', 'yes', 'yes']))

    def test_bad_line(self):
        self.assertEqual(outcome(answers, "table 1 0\nswap 0"), raised(BadLine, number=1))


class Answers(Calls, unittest.TestCase):
    def check(self, arrangement, *lines):
        text = "\n".join(("table " + text_of(arrangement),) + lines)
        self.returns(answers, {"text": text}, expected_answers(arrangement, lines))
        return answers(text)

    def test_the_first_line_alone(self):
        for arrangement in [(), (1, 0)] + arrangements(6) + shaped(24):
            self.assertEqual(self.check(arrangement), [])

    def test_nobody(self):
        found = self.check((), "show", "arms", "moves", "areas", "to -", "rings -", "many -", "many 0-1", "to 1 0",
                           "rings 1 0",
                           "swap 0 1", "leave 0", "turn 3", "undo", "undo", "run -", "run 0:1", "go -", "sit 1",
                           "sit 0", "show")
        self.assertEqual(found, ["-", "-", "-", "-", "0", "0", "1", "error NoPerson", "error OtherPeople",
                                 "error OtherPeople", "error NoArm", "error NoPerson", "no", "yes", "no", "0",
                                 "error NoArm", "0", "error NoPlace", "2", "1 0"])

    def test_two_people(self):
        found = self.check((1, 0), "show", "arms", "moves", "areas", "to 1 0", "rings 1 0", "many -", "many 0-1",
                           "many 0-2",
                           "swap 0 0", "leave 1", "show", "undo", "leave 0", "areas")
        self.assertEqual(found, ["1 0", "0-1", "-", "0, 1", "0", "1", "1", "1", "error NoPerson", "error Blocked", "0",
                                 "-", "yes", "1", "-"])

    def test_every_query_of_every_arrangement(self):
        for people in (4, 6, 8):
            for one in arrangements(people):
                lines = ["show", "arms", "moves", "areas"]
                for other in arrangements(people)[::3]:
                    lines += ["to " + text_of(other), "rings " + text_of(other)]
                self.check(one, *lines)

    def test_many_people(self):
        for one in shaped(24):
            lines = ["show", "arms", "moves", "areas"]
            for other in shaped(24) + shaped(22) + shaped(26):
                lines += ["to " + text_of(other), "rings " + text_of(other)]
            self.check(one, *lines)
        found = answers("table %s\nmany -\nmany 0-23\nmany 0-2\nmany 0-24\nsit 24\nsit 25\nshow" % text_of(facing(24)))
        self.assertEqual(found, ["208012", "58786", "0", "error NoPerson", "error Full", "error NoPlace",
                                 text_of(facing(24))])

    def test_every_pair_to_swap(self):
        for one in arrangements(6):
            for pair in itertools.product(range(8), repeat=2):
                self.check(one, "swap %d %d" % pair, "show", "undo", "show")

    def test_run(self):
        found = self.check(FLAT, "run 0:2 0:4", "show", "run 1:0", "run 0:1 9:9", "run -", "undo", "undo", "show")
        self.assertEqual(found, ["2", "5 2 1 4 3 0", "error Blocked", "error NoArm", "0", "yes", "yes", "1 0 3 2 5 4"])

    def test_go(self):
        found = self.check(FLAT, "go 5 2 1 4 3 0", "show", "go 5 2 1 4 3 0", "go 1 0", "go -", "undo", "undo",
                           "undo", "show")
        self.assertEqual(found, ["2", "5 2 1 4 3 0", "0", "error OtherPeople", "error OtherPeople", "yes", "yes", "no",
                                 "1 0 3 2 5 4"])

    def test_sit_and_leave(self):
        found = self.check(BENT, "sit 0", "sit 8", "sit 11", "show", "leave 10", "leave 9", "leave 0", "show")
        self.assertEqual(found, ["8", "10", "error NoPlace", "1 0 5 4 3 2 7 6 9 8", "error NoPerson", "8", "1",
                                 "3 2 1 0 5 4"])
        self.check(BENT, *["sit %d" % i for i in range(20)])
        self.check(facing(20), *(["sit 3"] * 4 + ["leave 5", "sit 2", "show"]))
        self.check(BENT, *["leave %d" % i for i in (7, 6, 5, 4, 3, 2, 1, 0)])

    def test_turn_and_undo(self):
        found = self.check(FLAT, "turn 0", "turn 1", "show", "turn 2", "turn 6", "turn 9999999999", "show", "undo",
                           "undo",
                           "undo", "undo", "undo", "undo")
        self.assertEqual(found, ["no", "yes", "5 2 1 4 3 0", "no", "no", "yes", "1 0 3 2 5 4", "yes", "yes", "yes",
                                 "yes", "yes", "no"])

    def test_many(self):
        found = self.check(FLAT, "many -", "many 0-1", "many 0-2", "many 0-3 1-4", "many 0-6", "many 5-6", "many 6-7",
                           "many 0-3 1-4 2-6", "many 0-2 1-9999999999", "many 0-1 2-3 4-5", "many 0-5", "sit 6",
                           "many 0-6", "many 6-7", "many 7-8", "leave 0", "leave 0", "many 0-3", "many 0-4")
        self.assertEqual(found, ["5", "2", "0", "0", "error NoPerson", "error NoPerson", "error NoPerson",
                                 "error NoPerson", "error NoPerson", "1", "2", "8", "0", "5", "error NoPerson", "1",
                                 "1",
                                 "1", "error NoPerson"])

    def test_every_error(self):
        found = self.check(facing(24), "swap 12 0", "swap 1 0", "run 12:0", "run 0:2", "go -", "to -", "rings 1 0",
                           "sit 25",
                           "sit 24", "leave 24", "many 23-24")
        self.assertEqual(found, ["error " + name for name in (
            "NoArm", "Blocked", "NoArm", "Blocked", "OtherPeople", "OtherPeople", "OtherPeople", "NoPlace", "Full",
            "NoPerson", "NoPerson")])

    def test_a_line_that_fails_changes_nothing(self):
        found = self.check(FLAT, "swap 0 2", "swap 9 9", "run 0:1 0:0", "go 1 0", "sit 7", "leave 6", "show", "undo",
                           "undo",
                           "show")
        self.assertEqual(found[6:], ["3 2 1 0 5 4", "yes", "no", "1 0 3 2 5 4"])

    def test_returned_lists_are_new(self):
        self.returns_new_lists(answers, EXAMPLE)
        self.returns_new_lists(answers, "table -")

    def test_each_text_begins_anew(self):
        self.assertEqual(answers("table 1 0\nsit 0\nshow"), ["4", "1 0 3 2"])
        self.assertEqual(answers("table 1 0\nundo\nshow"), ["no", "1 0"])


class LongSheets(Calls, unittest.TestCase):
    def next_line(self, party, number):
        people = len(party.guests)
        kind, detail = number % 16, number // 16
        other = text_of(shaped(people)[detail % len(shaped(people))])
        if kind < 3:
            moves = moves_text(party.arrangement()).split(" ")
            return "swap " + moves[detail % len(moves)].replace(":", " ") if moves != ["-"] else "show"
        if kind < 5:
            return "swap %d %d" % (detail % (people + 2), detail // 50 % (people + 2))
        if kind < 7:
            return "sit %d" % (detail % (people + 2))
        row = ("leave %d" % (detail % (people + 2)), "turn %d" % (detail % 60), "undo", "to " + other, "rings " + other,
               "go " + other, "run " + moves_text(party.arrangement())[:3].replace(" ", ""), "areas", "moves")
        return row[kind - 7] if people < 13 or kind != 13 else "arms"

    def test_like_a_party(self):
        for seed in range(40):
            arrangement = shaped(seed % 4 * 4)[0]
            party = Party(arrangement)
            row = numbers(seed)
            lines, expected = [], []
            while len(lines) < 59:
                lines += [self.next_line(party, next(row)), "show"]
                expected += [expected_answer(party, line) for line in lines[-2:]]
            text = "\n".join(["table " + text_of(arrangement)] + lines)
            self.assertTrue(same(outcome(answers, text), ("returned", expected)), shown(text))


class EmptyLines(Calls, unittest.TestCase):
    def test_empty_lines_alone(self):
        self.raises(answers, {"text": ""}, BadLine, number=1)
        for feeds in (1, 2, 3, 59, 60):
            self.raises(answers, {"text": "\n" * feeds}, BadLine, number=feeds + 1)

    def test_empty_lines_are_skipped(self):
        expected = ["1 0", "no"]
        for before, between, after in itertools.product(("", "\n", "\n\n\n"), repeat=3):
            text = before + "table 1 0\n" + between + "show\n" + between + "undo" + after
            self.returns(answers, {"text": text}, expected)
        self.returns(answers, {"text": "\ntable -\n"}, [])
        self.returns(answers, {"text": "\n".join("\n" + line for line in EXAMPLE.split("\n"))}, answers(EXAMPLE))

    def test_a_blank_is_not_empty(self):
        for text, number in ((" ", 0), ("\n ", 1), (" \n", 0), ("table -\n ", 1), ("table -\n\n \nshow", 2),
                             ("\n\n \ntable -", 2), ("table -\nshow\n ", 2)):
            self.raises(answers, {"text": text}, BadLine, number=number)

    def test_all_lines_are_counted(self):
        for empty in range(4):
            for later in range(4):
                text = "\n" * empty + "table 1 0\n" + "\n" * later + "shown"
                self.raises(answers, {"text": text}, BadLine, number=empty + later + 1)
                self.raises(answers, {"text": "\n" * empty + "show\n" + "\n" * later + "shown"}, BadLine, number=empty)


class BadLines(Calls, unittest.TestCase):
    def test_right_lines(self):
        for line in RIGHT:
            self.assertEqual(len(answers("table 1 0 3 2 5 4\n" + line)), 1)

    def test_every_wrong_line(self):
        for line in wrong_lines() + WRONG_FIRST + ["table -", "table 1 0", "table 1 0 3 2 5 4"]:
            for before in ([], ["show"], ["", "undo", ""], ["swap 9 9"]):
                text = "\n".join(["table 1 0 3 2 5 4"] + before + [line, "show"])
                self.raises(answers, {"text": text}, BadLine, number=1 + len(before))

    def test_every_wrong_first_line(self):
        for line in WRONG_FIRST + wrong_lines() + list(RIGHT):
            for before in (0, 1, 3):
                for after in ([], ["table 1 0"], ["show", "x"]):
                    text = "\n".join([""] * before + [line] + after)
                    self.raises(answers, {"text": text}, BadLine, number=before)

    def test_the_first_of_several(self):
        for first, second in ((1, 2), (1, 9), (5, 6), (10, 11)):
            lines = ["table 1 0"] + ["show"] * 11
            lines[first], lines[second] = "sit", "x"
            self.raises(answers, {"text": "\n".join(lines)}, BadLine, number=first)

    def test_before_anything_is_done(self):
        # What the lines before would raise does not matter.
        self.raises(answers, {"text": "table 1 0\nleave 9\nswap 9 9\nsit 9\ngo -\nmany 0-9\nx"}, BadLine, number=6)

    def test_at_most_twenty_four_people(self):
        for people in (22, 24):
            for one in shaped(people):
                self.returns(answers, {"text": "table " + text_of(one)}, [])
        for people in (26, 28, 100):
            for one in shaped(people):
                self.assertTrue(fits_definition(one))
                self.raises(answers, {"text": "table " + text_of(one)}, BadLine, number=0)
                self.raises(answers, {"text": "\n\ntable " + text_of(one) + "\nx"}, BadLine, number=2)

    def test_other_arrangements_may_be_of_more(self):
        for people in (26, 100):
            other = text_of(one_over_the_rest(people))
            self.returns(answers, {"text": "table 1 0\ngo %s\nto %s\nrings %s" % (other, other, other)},
                         ["error OtherPeople"] * 3)

    def test_crossing_arms(self):
        for numbers_told in itertools.permutations(range(4)):
            text = text_of(numbers_told)
            right = fits_definition(numbers_told)
            pairs = [(a, b) for a, b in enumerate(numbers_told) if a < b]
            if right:
                self.assertFalse(crosses(*pairs))
            expected = ("returned", []) if right else raised(BadLine, number=0)
            self.assertEqual(outcome(answers, "table " + text), expected)
            for word in ("go", "to", "rings"):
                found = outcome(answers, "table 1 0 3 2\n%s %s" % (word, text))
                self.assertEqual(found[0] == "returned", right)
                if not right:
                    self.assertEqual(found, raised(BadLine, number=1))

    def test_every_character_everywhere(self):
        """A line with one other character is either right, too, or the bad line."""
        for line in ("swap 0 2", "run 0:2", "go 1 0", "sit 0", "undo", "many 0-1", "areas"):
            for at in range(len(line) + 1):
                for code in range(32, 127):
                    for end in (at, at + 1):
                        changed = line[:at] + chr(code) + line[end:]
                        found = outcome(answers, "table 1 0 3 2\n" + changed)
                        if found[0] == "returned":
                            self.assertRegex(changed, r"\A(swap \d+ \d+|run \d+:\d+|(go|to) 1 0|(sit|turn|leave) \d+"
                                                      r"|undo|many \d+-\d+|areas)\Z")
                            self.assertTrue(same(found[1], expected_answers((1, 0, 3, 2), [changed])), changed)
                        else:
                            self.assertEqual(found, raised(BadLine, number=1), changed)


if __name__ == "__main__":
    unittest.main()
