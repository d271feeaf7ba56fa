"""A model of a table for the tests: guests in their seats, each with a partner, none of them a number."""

import itertools

from handshakes.errors import Blocked, Full, NoArm, NoPerson, NoPlace, OtherPeople
from calls import raised
from shapes import crosses


class Party:
    def __init__(self, arrangement=()):
        self.guests = ["first %d" % i for i in range(len(arrangement))]
        self.partner = {self.guests[i]: self.guests[j] for i, j in enumerate(arrangement)}
        self.past = []
        self.calls = []
        self.came = 0

    def arrangement(self):
        return tuple(self.guests.index(self.partner[guest]) for guest in self.guests)

    def arms(self):
        return [(a, b) for a, b in enumerate(self.arrangement()) if a < b]

    def state(self):
        return list(self.guests), dict(self.partner)

    def do(self, name, *given):
        """The outcome that the document asks for of an operation."""
        self.calls += [("in", name), ("out", name)]
        before = self.state()
        found = getattr(self, name)(*given)
        if found[0] == "raised":
            self.guests, self.partner = before
        elif name != "undo":
            self.past.append(before)
        return found

    def undo(self):
        if not self.past:
            return ("returned", False)
        self.guests, self.partner = self.past.pop()
        return ("returned", True)

    def exchange(self, one, other):
        lesser = [a for a, b in self.arms()]
        for person in (one, other):
            if person not in lesser:
                return raised(NoArm, person=person)
        pairs = self.arms()
        chosen = [pair for pair in pairs if pair[0] in (one, other)]
        if one < other:
            a, b, c, d = sorted(chosen[0] + chosen[1])
            for way in ([(a, b), (c, d)], [(a, d), (b, c)]):
                whole = [pair for pair in pairs if pair not in chosen] + way
                if way != chosen and not any(crosses(x, y) for x, y in itertools.combinations(whole, 2)):
                    for x, y in way:
                        self.partner[self.guests[x]], self.partner[self.guests[y]] = self.guests[y], self.guests[x]
                    return ("returned", self.arrangement())
        return raised(Blocked, pair=(one, other))

    def run(self, some):
        for one, other in some:
            found = self.exchange(one, other)
            if found[0] == "raised":
                return found
        return ("returned", len(some))

    def go(self, goal):
        if len(goal) != len(self.guests):
            return raised(OtherPeople)
        groups = [{i} for i in range(len(goal))]
        for a, b in list(enumerate(self.arrangement())) + list(enumerate(goal)):
            touched = [group for group in groups if a in group or b in group]
            groups = [group for group in groups if group not in touched] + [set().union(*touched)]
        self.partner = {self.guests[i]: self.guests[j] for i, j in enumerate(goal)}
        return ("returned", len(goal) // 2 - len(groups))

    def sit(self, place):
        if place < 0 or place > len(self.guests):
            return raised(NoPlace, place=place)
        if len(self.guests) >= 24:
            return raised(Full, many=len(self.guests))
        self.came += 1
        one, other = "left %d" % self.came, "right %d" % self.came
        self.guests[place:place] = [one, other]
        self.partner[one], self.partner[other] = other, one
        return ("returned", len(self.guests))

    def leave(self, person):
        if person not in range(len(self.guests)):
            return raised(NoPerson, person=person)
        one = self.guests[person]
        other = self.partner[one]
        found = self.guests.index(other)
        self.guests = [guest for guest in self.guests if guest not in (one, other)]
        return ("returned", found)

    def turn(self, seats):
        before = self.arrangement()
        for seat in range(seats % (len(self.guests) or 1)):
            self.guests = self.guests[-1:] + self.guests[:-1]
        return ("returned", self.arrangement() != before)


def numbers(seed):
    """An endless row of numbers that look like chance and are the same every time."""
    while True:
        seed = (seed * 1103515245 + 12345) % 2 ** 31
        yield seed >> 8
