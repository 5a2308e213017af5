"""Books: some tellers, and the hearings from one to another with their costs."""

from hearwood.errors import Alone, First, NoBook, NoHearing, NoTeller

MOST_TELLERS = 12


# The words of a refusal name no number that was handed in: any whole number
# may be, and Python does not write one of some thousand figures.
def check_pair(many, one, other):
    # This order is promised: twice the same number that is no teller's is
    # NoTeller, and teller 0 twice is Alone.
    if not (0 <= one < many and 0 <= other < many):
        raise NoTeller("one of the two numbers is no teller's")
    if one == other:
        raise Alone("no teller hears the tale from itself")
    if other == 0:
        raise First("teller 0 told the tale first and hears it from nobody")


class Book:
    def __init__(self, many):
        if not 1 <= many <= MOST_TELLERS:
            raise NoBook(f"a book has 1 to {MOST_TELLERS} tellers")
        self.tellers = many
        self.costs = {}

    def many(self):
        return self.tellers

    def let(self, one, other, cost):
        check_pair(self.tellers, one, other)
        self.costs[(one, other)] = cost
        return len(self.costs)

    def ban(self, one, other):
        check_pair(self.tellers, one, other)
        if (one, other) not in self.costs:
            raise NoHearing("there is no such hearing to ban")
        self.costs.pop((one, other))
        return len(self.costs)

    def cost(self, one, other):
        check_pair(self.tellers, one, other)
        return self.costs.get((one, other))

    def hearings(self):
        return [(one, other, self.costs[(one, other)]) for one, other in sorted(self.costs)]
