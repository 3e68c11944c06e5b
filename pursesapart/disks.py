"""Disks that keep values in cells, and may fall at a write."""

from pursesapart.checks import is_number, is_number_from
from pursesapart.errors import BadCell, BadCells, BadContent, BadFuse, Fell


class Disk:
    """Cells with contents; fuse is how many more writes it lets through, None for any number."""

    def __init__(self, cells, fuse):
        if not are_cells(cells):
            raise BadCells("a dict from strings to contents is wanted")
        check_fuse(fuse)
        self.fuse = fuse
        self._held = {cell: value for cell, value in cells.items()}

    def read(self, cell):
        """The value in the cell, None if nothing was ever written to it."""
        check_cell(cell)
        return self._held.get(cell)

    def write(self, cell, value):
        """Writes the value to the cell, or falls if no more writes are let through."""
        check_cell(cell)
        if not is_storable(value):
            raise BadContent("a content is made of numbers, strings, None, names, and tuples of these")
        if self.fuse == 0:
            raise Fell("no more writes are let through")
        self._held[cell] = value
        if self.fuse is not None:
            self.fuse -= 1

    def cells(self):
        """The dict of what was written, its keys ascending."""
        return {cell: self._held[cell] for cell in sorted(self._held)}


def are_cells(value):
    """Whether any value is a dict from strings to contents."""
    if not isinstance(value, dict):
        return False
    return all([isinstance(cell, str) and is_storable(held) for cell, held in value.items()])


def is_storable(value):
    """Whether any value is a content, its names judged by their form alone: so a name is a tuple like others."""
    waiting = [value]
    while waiting:
        item = waiting.pop()
        if isinstance(item, tuple):
            waiting.extend(item)
        elif item is not None and not isinstance(item, str) and not is_number(item):
            return False
    return True


def check_cell(cell):
    """BadCell unless it is a string."""
    if not isinstance(cell, str):
        raise BadCell("a cell is told by a string")


def check_fuse(fuse):
    """BadFuse unless it is None or a number from 0 on."""
    if fuse is not None and not is_number_from(fuse, 0):
        raise BadFuse("a fuse is None or a number from 0 on")
