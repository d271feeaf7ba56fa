"""Sheets: lines of text, of which the first sets a table and each of the others is answered by it."""

from handshakes.errors import BadLine, BadText, Blocked, Full, NoArm, NoPerson, NoPlace, OtherPeople
from handshakes.known import many
from handshakes.rings import distance, rings
from handshakes.table import SEATS, Table
from handshakes.texts import (
    NOTHING, are_number_texts, arrangement_in, arrangement_text, exchanges_in, exchanges_text, known_in, known_text)

ALONE = ("undo", "show", "arms", "moves", "areas")
NUMBERS = {"swap": 2, "sit": 1, "leave": 1, "turn": 1}
WITH_ARRANGEMENT = ("go", "to", "rings")


def numbers_in(text, count):
    """The list of so many numbers with that text."""
    words = text.split(" ")
    if len(words) != count or not are_number_texts(words):
        raise BadText(text)
    return [int(word) for word in words]


def told_in(word, text):
    """What the text behind the word tells."""
    if word in NUMBERS:
        return numbers_in(text, NUMBERS[word])
    if word in WITH_ARRANGEMENT:
        return arrangement_in(text)
    if word == "run":
        return exchanges_in(text)
    if word == "many":
        return known_in(text)
    raise BadText(text)


def first_line_in(line):
    """The word of the first line and the ARRANGEMENT that it sets."""
    word, blank, text = line.partition(" ")
    arrangement = arrangement_in(text)
    if word != "table" or len(arrangement) > SEATS:
        raise BadText(line)
    return (word, arrangement)


def other_line_in(line):
    """The word of another line and what it tells, None if it is the word alone."""
    if line in ALONE:
        return (line, None)
    word, blank, text = line.partition(" ")
    return (word, told_in(word, text))


def lines_in(text):
    """The words of all lines that are not skipped, each with what its line tells."""
    lines = text.split("\n")
    found = []
    for number, line in enumerate(lines):
        if line == "":
            continue
        try:
            found.append(other_line_in(line) if found else first_line_in(line))
        except BadText:
            raise BadLine(number) from None
    if not found:
        raise BadLine(len(lines))
    return found


def yes_or_no(holds):
    """The word for True or for False."""
    return "yes" if holds else "no"


def answer_swap(table, told):
    one, other = told
    return arrangement_text(table.exchange(one, other))


def answer_run(table, told):
    return str(table.run(told))


def answer_go(table, told):
    return str(table.go(told))


def answer_sit(table, told):
    return str(table.sit(told[0]))


def answer_leave(table, told):
    return str(table.leave(told[0]))


def answer_turn(table, told):
    return yes_or_no(table.turn(told[0]))


def answer_undo(table, told):
    return yes_or_no(table.undo())


def answer_show(table, told):
    return arrangement_text(table.arrangement())


def answer_arms(table, told):
    return known_text(table.arms())


def answer_moves(table, told):
    return exchanges_text(table.exchanges())


def answer_areas(table, told):
    written = [" ".join([str(space) for space in area]) for area in table.areas()]
    return ", ".join(written) if written else NOTHING


def answer_to(table, told):
    return str(distance(table.arrangement(), told))


def answer_rings(table, told):
    return str(len(rings(table.arrangement(), told)))


def answer_many(table, told):
    for pair in told:
        for person in pair:
            if person >= len(table):
                raise NoPerson(person)
    return str(many(len(table), told))


ANSWERS = {
    "swap": answer_swap, "run": answer_run, "go": answer_go, "sit": answer_sit, "leave": answer_leave,
    "turn": answer_turn, "undo": answer_undo, "show": answer_show, "arms": answer_arms, "moves": answer_moves,
    "areas": answer_areas, "to": answer_to, "rings": answer_rings, "many": answer_many,
}


def answer(table, word, told):
    """The answer of one line, the name of an error that it raises included."""
    action = ANSWERS[word]
    try:
        return action(table, told)
    except NoArm:
        return "error NoArm"
    except Blocked:
        return "error Blocked"
    except OtherPeople:
        return "error OtherPeople"
    except NoPlace:
        return "error NoPlace"
    except Full:
        return "error Full"
    except NoPerson:
        return "error NoPerson"


def answers(text):
    """The answers of the Table that the first line sets, one string for each of the other lines."""
    lines = lines_in(text)
    arrangement = lines[0][1]
    table = Table(arrangement)
    return [answer(table, word, told) for word, told in lines[1:]]
