"""[43]: disks, their cells and their fuses."""

import unittest

from pursesapart.disks import Disk
from pursesapart.errors import BadCell, BadCells, BadContent, BadFuse, Fell, PurseError
from pursesapart.trust import Trust
from tests.helpers import BAD_CONTENTS, LONG, check_errors, check_raises

GOOD_CONTENTS = [
    None, 0, -1, LONG - 1, 1 - LONG, "", "name", (), ("name", 0), ("name", LONG - 1), ("name", -1), ("name", None),
    ("name",), (None, (1, ("a", ("name", 7)))), (("name", 0), (("name", 3),)), ((((((),),),),),),
]
BAD_CELLS_NAMES = [None, True, 0, (), [], {}, ("a",), ["a"], Trust()]


class Disks(unittest.TestCase):
    def test_cells_read_and_write(self):
        disk = Disk({}, None)
        self.assertIsNone(disk.read("a"))
        self.assertEqual({}, disk.cells())
        for value in GOOD_CONTENTS:
            self.assertIsNone(disk.write("a", value))
            self.assertEqual(value, disk.read("a"))
            self.assertEqual({"a": value}, disk.cells())
            self.assertEqual(value, Disk({"": value}, None).read(""))
        disk.write("", 5)
        self.assertEqual(5, disk.read(""))
        self.assertIsNone(disk.read("b"))

    def test_cells_have_ascending_keys_and_what_was_written(self):
        disk = Disk({"c": 1, "a": None}, None)
        disk.write("b", (2,))
        disk.write("A", 3)
        disk.write("c", None)
        self.assertEqual([("A", 3), ("a", None), ("b", (2,)), ("c", None)], list(disk.cells().items()))

    def test_nothing_is_kept_by_reference(self):
        cells = {"a": 1}
        disk = Disk(cells, None)
        cells["a"] = 2
        cells["b"] = 3
        self.assertEqual({"a": 1}, disk.cells())
        told = disk.cells()
        told["a"] = 4
        told["c"] = 5
        self.assertEqual({"a": 1}, disk.cells())
        disk.write("a", 6)
        self.assertEqual({"a": 2, "b": 3}, cells)

    def test_a_disk_of_the_cells_of_another_one_is_its_own(self):
        one = Disk({"a": 1}, 0)
        other = Disk(one.cells(), None)
        other.write("a", 2)
        self.assertEqual((1, 2), (one.read("a"), other.read("a")))

    def test_fuses(self):
        for fuse in (0, 1, 2, 7):
            disk = Disk({"a": -1}, fuse)
            self.assertEqual(fuse, disk.fuse)
            for at in range(fuse):
                disk.write("a", at)
                self.assertEqual(fuse - at - 1, disk.fuse)
            for _ in range(3):
                with self.assertRaises(Fell):
                    disk.write("a", "no")
                self.assertEqual(0, disk.fuse)
                self.assertEqual(fuse - 1, disk.read("a"))
                with self.assertRaises(Fell):
                    disk.write("new", 0)
                self.assertEqual(["a"], list(disk.cells()))

    def test_without_a_fuse_every_write_comes_through(self):
        disk = Disk({}, None)
        for at in range(100):
            disk.write("a", at)
            self.assertIsNone(disk.fuse)
        self.assertEqual(99, disk.read("a"))

    def test_a_fuse_counts_writes_that_change_nothing_too(self):
        disk = Disk({"a": 1}, 1)
        disk.write("a", 1)
        self.assertEqual(0, disk.fuse)

    def test_errors_of_a_new_disk(self):
        bad_cells = [None, True, 0, "a", (), [], [("a", 1)], Trust(), {0: 1}, {None: 1}, {("a",): 1}, {True: 1},
                     {"a": 1, 2: 3}, {b"a": 1}] + [{"a": 0, "b": value} for value in BAD_CONTENTS]
        bad_fuses = [-1, True, False, "0", (), [], {}, (0,), LONG, -LONG, Trust()]
        check_errors(self, Disk, [("cells", {"a": 1}, BadCells, bad_cells), ("fuse", 0, BadFuse, bad_fuses)])
        check_errors(self, Disk, [("cells", {}, BadCells, []), ("fuse", None, BadFuse, bad_fuses)])

    def test_errors_of_reading_and_writing(self):
        disk = Disk({}, None)
        check_errors(self, disk.read, [("cell", "a", BadCell, BAD_CELLS_NAMES)])
        check_errors(self, disk.write, [
            ("cell", "a", BadCell, BAD_CELLS_NAMES), ("value", ("name", 3), BadContent, BAD_CONTENTS),
        ])
        self.assertEqual({"a": ("name", 3)}, disk.cells())

    def test_a_write_that_is_refused_takes_nothing_off_the_fuse(self):
        for fuse in (0, 1):
            disk = Disk({}, fuse)
            check_raises(self, BadCell, disk.write, [0, 0])
            check_raises(self, BadContent, disk.write, ["a", True])
            self.assertEqual(fuse, disk.fuse)
            self.assertEqual({}, disk.cells())

    def test_contents_may_be_deep(self):
        value = ()
        for _ in range(60):
            value = (value, ("name", 5))
        disk = Disk({"a": value}, None)
        disk.write("b", value)
        self.assertEqual(value, disk.read("b"))

    def test_a_fall_is_an_error_of_the_package(self):
        with self.assertRaises(PurseError):
            Disk({}, 0).write("a", 0)


if __name__ == "__main__":
    unittest.main()
