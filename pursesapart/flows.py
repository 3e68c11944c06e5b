"""As many shares as there can be between wanted payments and those against them in their pasts.

(Elsewhere: a maximum flow by augmenting paths.) Wanted payments and those against are told by their places.
"""


class Flow:
    """What is left of the wanted payments and of those against besides what they share.

    below has for each wanted payment the mask of those against in its past.
    """

    def __init__(self, wanted, against, below):
        self.left = list(wanted)
        self.room = list(against)
        self.below = list(below)
        self.shares = [{} for _ in against]
        self.closed = {}
        self.usable = (1 << len(against)) - 1

    def fill(self):
        """Shares as much as can be shared."""
        for one in range(len(self.left)):
            while self.left[one] > 0 and one not in self.closed:
                self.step_from(one)

    def step_from(self, start):
        """Shares more of one wanted payment, or closes all that is met from it where no room is."""
        met_by = {}
        freed_by = {start: None}
        end = self.search(start, met_by, freed_by)
        if end is not None:
            self.share_along(way_to(end, met_by, freed_by))
            return
        # From what was met nothing will ever lead out again, so later searches pass it over.
        for one in freed_by:
            self.closed[one] = True
        for other in met_by:
            self.usable -= 1 << other

    def search(self, start, met_by, freed_by):
        """The nearest one against that has room, None if there is none.

        It is told in met_by from which wanted payment each one against was met, and in freed_by which one
        against each wanted payment can give up for another one.
        """
        unmet = self.usable
        waiting = [start]
        at = 0
        while at < len(waiting):
            one = waiting[at]
            at += 1
            news = bits_of(self.below[one] & unmet)
            unmet -= self.below[one] & unmet
            for other in news:
                met_by[other] = one
                if self.room[other] > 0:
                    return other
                for holder in self.shares[other]:
                    if holder not in freed_by:
                        freed_by[holder] = other
                        waiting.append(holder)
        return None

    def share_along(self, way):
        """Shares as much as the way lets through; each wanted payment on it gives up what it gets further on."""
        most = min(self.left[way[-1][0]], self.room[way[0][1]])
        for one, _, freed in way[:-1]:
            most = min(most, self.shares[freed][one])
        self.left[way[-1][0]] -= most
        self.room[way[0][1]] -= most
        for one, other, freed in way:
            self.shares[other][one] = self.shares[other].get(one, 0) + most
            if freed is not None:
                self.give_up(one, freed, most)

    def give_up(self, one, other, share):
        """Takes so much off what the two share."""
        self.shares[other][one] -= share
        if self.shares[other][one] == 0:
            del self.shares[other][one]


def way_to(end, met_by, freed_by):
    """The list of the steps (wanted, against, given up) by which the end was met, the last one first."""
    way = []
    other = end
    while other is not None:
        one = met_by[other]
        way.append((one, other, freed_by[one]))
        other = freed_by[one]
    return way


def bits_of(mask):
    """The ascending list of the places of the bits of the mask."""
    bits = []
    while mask:
        low = mask & -mask
        bits.append(low.bit_length() - 1)
        mask -= low
    return bits
