"""Shortest rows of deeds by which a sum comes to be what is wanted.

A search tries out all rows of one deed, of two, and so on, and keeps the sums that they come to.
Where two rows come to the same sum at the same tick of the round, one of them is enough.
"""

from driftstore.errors import NoWay, TooMany
from driftstore.fields import meet, times
from driftstore.machines import stirred

MOST_PAIRS = 20000


class Plugs:
    """Sights or writes as they change from tick to tick, and what their deeds add to a sum.

    The sum has a number for each of the looks: what a plug's row meets that look with is added to it.
    """

    def __init__(self, prime, table, rows, looks, words):
        self.prime = prime
        self.table = table
        self.rows = rows
        self.looks = looks
        self.words = words

    def told(self, row):
        """Return what a row meets the looks with."""
        return tuple([meet(self.prime, row, look) for look in self.looks])

    def choices(self):
        """Return the deeds of this tick, each with what it adds to the sum."""
        word, opposite = self.words
        found = [(("wait",), (0,) * len(self.looks))]
        for plug, row in enumerate(self.rows):
            told = self.told(row)
            found.append(((word, plug), told))
            found.append(((opposite, plug), times(self.prime, -1, told)))
        return found

    def first_choices(self):
        """Return the deeds that do away with what the hand was, each with what the sum then is."""
        found = [(("put", 0), (0,) * len(self.looks))]
        for plug, row in enumerate(self.rows):
            found.append((("get", plug), self.told(row)))
        return found

    def stir(self):
        """Let a tick go by."""
        self.rows = [stirred(self.prime, self.table, row) for row in self.rows]


class Search:
    """A search for a shortest row of deeds; a round has so many ticks."""

    def __init__(self, plugs, ticks_of_round):
        self.plugs = plugs
        self.ticks_of_round = ticks_of_round
        self.met = {}

    def note(self, tick, total, before):
        """Note that a sum is met at a tick of the round, and how; tell whether it is new there."""
        pair = (tick % self.ticks_of_round, total)
        if pair in self.met:
            return False
        self.met[pair] = before
        if len(self.met) > MOST_PAIRS:
            raise TooMany(MOST_PAIRS)
        return True

    def further(self, tick, totals, choices):
        """Return the sums that are new behind one more deed."""
        prime = self.plugs.prime
        found = []
        for total in totals:
            for deed, told in choices:
                then = tuple([(a + b) % prime for a, b in zip(total, told)])
                if self.note(tick, then, (deed, total)):
                    found.append(then)
        return found

    def way(self, ticks, total):
        """Return the deeds that have come to a sum in so many ticks."""
        deeds = []
        while ticks > 0:
            deed, total = self.met[(ticks % self.ticks_of_round, total)]
            deeds.append(deed)
            ticks -= 1
        return tuple(deeds[::-1])

    def from_any_hand(self, wanted):
        """Return a shortest row of deeds behind which the hand, whatever it was, is the sum wanted."""
        totals = self.further(1, [(0,) * len(wanted)], self.plugs.first_choices())
        self.plugs.stir()
        return self.go_on(1, totals, wanted)

    def from_this_hand(self, wanted):
        """Return a shortest row of deeds behind which the sum wanted has been added."""
        noughts = (0,) * len(wanted)
        self.note(0, noughts, None)
        return self.go_on(0, [noughts], wanted)

    def go_on(self, ticks, totals, wanted):
        """Return a shortest row of deeds to the sum wanted, where so many ticks have come to these sums."""
        while totals:
            if wanted in totals:
                return self.way(ticks, wanted)
            ticks += 1
            totals = self.further(ticks, totals, self.plugs.choices())
            self.plugs.stir()
        raise NoWay()
