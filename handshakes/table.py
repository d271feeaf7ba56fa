"""A table: an arrangement that is kept over many operations, which can be undone."""

from handshakes.areas import areas
from handshakes.arrangements import arms
from handshakes.errors import Full, NoOperation, NoPerson, NoPlace
from handshakes.exchanges import exchanged, exchanges, run
from handshakes.rings import distance
from handshakes.turns import turned

SEATS = 24


def seated(arrangement, place):
    """The ARRANGEMENT after two people who shake hands sit down, the first as person place."""
    partners = [partner if partner < place else partner + 2 for partner in arrangement]
    return tuple(partners[:place] + [place + 1, place] + partners[place:])


def without(arrangement, person):
    """The ARRANGEMENT after the person and the partner have left and the others have closed up."""
    gone = (person, arrangement[person])
    staying = [other for other in range(len(arrangement)) if other not in gone]
    numbers = {other: number for number, other in enumerate(staying)}
    return tuple([numbers[arrangement[other]] for other in staying])


class Table:
    """An ARRANGEMENT with its past."""

    def __init__(self, arrangement=()):
        # The ARRANGEMENT at first, and after each operation in effect.
        self.states = [tuple(arrangement)]
        self.calls = []

    def __eq__(self, other):
        return isinstance(other, Table) and self.states[-1] == other.states[-1]

    def __len__(self):
        return len(self.states[-1])

    def __repr__(self):
        return f"Table({len(self.states[-1])} people)"

    def exchange(self, one, other):
        """The EXCHANGE (one, other); returns the ARRANGEMENT after it."""
        self.calls.append(("in", "exchange"))
        try:
            after = exchanged(self.states[-1], (one, other))
            self.states.append(after)
            return after
        finally:
            self.calls.append(("out", "exchange"))

    def run(self, some):
        """A list of pairs, exchanged one after another, all or none; returns how many they are."""
        self.calls.append(("in", "run"))
        try:
            self.states.append(run(self.states[-1], some))
            return len(some)
        finally:
            self.calls.append(("out", "run"))

    def go(self, goal):
        """Exchanges until the ARRANGEMENT is goal; returns the distance."""
        self.calls.append(("in", "go"))
        try:
            steps = distance(self.states[-1], goal)
            self.states.append(tuple(goal))
            return steps
        finally:
            self.calls.append(("out", "go"))

    def sit(self, place):
        """Two new people sit down side by side and shake hands; returns how many people there are then."""
        self.calls.append(("in", "sit"))
        try:
            people = len(self.states[-1])
            if not 0 <= place <= people:
                raise NoPlace(place)
            if people >= SEATS:
                raise Full(people)
            self.states.append(seated(self.states[-1], place))
            return people + 2
        finally:
            self.calls.append(("out", "sit"))

    def leave(self, person):
        """The person and the partner leave; returns the number of the partner."""
        self.calls.append(("in", "leave"))
        try:
            before = self.states[-1]
            if not 0 <= person < len(before):
                raise NoPerson(person)
            self.states.append(without(before, person))
            return before[person]
        finally:
            self.calls.append(("out", "leave"))

    def turn(self, seats):
        """Turned by so many seats; returns whether the ARRANGEMENT changed."""
        self.calls.append(("in", "turn"))
        try:
            before = self.states[-1]
            after = turned(before, seats)
            self.states.append(after)
            return after != before
        finally:
            self.calls.append(("out", "turn"))

    def undo(self):
        """Takes back the last operation in effect; returns whether there was one."""
        self.calls.append(("in", "undo"))
        try:
            if len(self.states) == 1:
                return False
            self.states.pop()
            return True
        finally:
            self.calls.append(("out", "undo"))

    def arrangement(self):
        """The ARRANGEMENT."""
        return self.states[-1]

    def arms(self):
        """The ascending list of the arms."""
        return arms(self.states[-1])

    def exchanges(self):
        """The ascending list of the possible EXCHANGEs."""
        return exchanges(self.states[-1])

    def areas(self):
        """The ascending list of the areas."""
        return areas(self.states[-1])

    def operations(self):
        """How many operations are in effect."""
        return len(self.states) - 1

    def as_of(self, many):
        """A new Table in the state after the first many operations in effect."""
        if not 0 <= many <= self.operations():
            raise NoOperation(many)
        table = Table()
        table.states = self.states[:many + 1]
        return table

    def copy(self):
        """A new Table in the same state, with the same operations in effect."""
        return self.as_of(self.operations())

    def log(self):
        """The list of the beginnings and ends of all calls of operations."""
        return list(self.calls)
