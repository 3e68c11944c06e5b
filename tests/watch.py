"""A disk that notes its writes, and what was named and sealed just ahead of each."""

from pursesapart.disks import Disk


class WatchedDisk(Disk):
    """Notes (cell, value, how many names were given, whether any of these seals stands) at each write."""

    def __init__(self, trust, cells=None, fuse=None):
        super().__init__({} if cells is None else cells, fuse)
        self.trust = trust
        self.notes = []

    def write(self, cell, value):
        self.notes.append((cell, value, self.trust.size(), seals_of(self.trust)))
        super().write(cell, value)


def seals_of(trust):
    """All pairs of who and a name that are sealed by ends of small banks."""
    whos = [(word, number) for word in ("owner", "member") for number in range(8)]
    names = [("name", number) for number in range(trust.size())]
    return [(who, name) for who in whos for name in names if trust.sealed(who, name)]


def contents_of(trust):
    """All contents, in the sequence of their names."""
    return [trust.content(("name", number)) for number in range(trust.size())]


def sealed_contents(trust):
    """Who sealed what, told by contents alone, with names spelt out, so that two trusts can be compared."""
    return {(who, spelt(trust, name)) for who, name in seals_of(trust)}


def spelt(trust, value):
    """The value with each name exchanged for what it stands for."""
    if trust.is_name(value):
        return ("of", spelt(trust, trust.content(value)))
    if isinstance(value, tuple):
        return tuple(spelt(trust, item) for item in value)
    return value
