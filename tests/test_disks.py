"""Point 26, with 2: files and a book on a disk, and how many more writes it is allowed."""

import unittest

from parcelmend.disks import Disk
from parcelmend.errors import Fallen, MendError


class DiskTest(unittest.TestCase):
    def check(self, disk, files, book):
        for turn in range(2):
            told = disk.files_now()
            self.assertIs(type(told), dict)
            self.assertEqual(told, files)
            self.assertEqual([type(lines) for lines in told.values()], [list] * len(files))
            rows = disk.book_now()
            self.assertIs(type(rows), list)
            self.assertEqual(rows, book)
            self.assertEqual([type(row) for row in rows], [tuple] * len(book))

    def writes(self, disk):
        """One write of each sort, not done yet; the last one is of a path that is not there."""
        return [
            lambda: disk.put("new", ["n"]), lambda: disk.put("f", ["other"]), lambda: disk.erase("f"),
            lambda: disk.note("step", "a b"), lambda: disk.erase("absent"),
        ]

    def check_fallen(self, disk):
        files = disk.files_now()
        book = disk.book_now()
        for turn in range(2):
            for write in self.writes(disk):
                with self.assertRaises(MendError) as caught:
                    write()
                self.assertIs(type(caught.exception), Fallen)
                self.check(disk, files, book)


class WritingTest(DiskTest):
    def test_new(self):
        self.check(Disk(), {}, [])

    def test_put_anew(self):
        disk = Disk()
        self.assertIsNone(disk.put("f", ["1", "", "2"]))
        self.check(disk, {"f": ["1", "", "2"]}, [])
        self.assertIsNone(disk.put("conf/ed", []))
        self.assertIsNone(disk.put("f.own", ["x"]))
        self.assertIsNone(disk.put("=mail", ["a"]))
        self.check(disk, {"f": ["1", "", "2"], "conf/ed": [], "f.own": ["x"], "=mail": ["a"]}, [])

    def test_put_in_the_place_of_others(self):
        disk = Disk()
        disk.put("f", ["1", "2"])
        disk.put("g", ["3"])
        self.assertIsNone(disk.put("f", ["4"]))
        self.check(disk, {"f": ["4"], "g": ["3"]}, [])
        disk.put("f", [])
        self.check(disk, {"f": [], "g": ["3"]}, [])

    def test_erase(self):
        disk = Disk()
        for path in ("f", "f/g", "g"):
            disk.put(path, [path])
        self.assertIsNone(disk.erase("f"))
        self.check(disk, {"f/g": ["f/g"], "g": ["g"]}, [])
        self.assertIsNone(disk.erase("g"))
        self.assertIsNone(disk.erase("f/g"))
        self.check(disk, {}, [])

    def test_erase_a_path_that_is_not_there(self):
        disk = Disk()
        self.assertIsNone(disk.erase("f"))
        self.check(disk, {}, [])
        disk.put("g", ["1"])
        self.assertIsNone(disk.erase("f"))
        self.check(disk, {"g": ["1"]}, [])
        disk.erase("g")
        self.assertIsNone(disk.erase("g"))
        self.check(disk, {}, [])

    def test_put_again_behind_erasing(self):
        disk = Disk()
        disk.put("f", ["1"])
        disk.erase("f")
        disk.put("f", ["2"])
        self.check(disk, {"f": ["2"]}, [])

    def test_note(self):
        disk = Disk()
        self.assertIsNone(disk.note("begin", "in a 1\nin b 2"))
        self.check(disk, {}, [("begin", "in a 1\nin b 2")])
        for kind, text in (("step", "a b"), ("end", ""), ("end", ""), ("begin", "")):
            self.assertIsNone(disk.note(kind, text))
        self.check(
            disk, {}, [("begin", "in a 1\nin b 2"), ("step", "a b"), ("end", ""), ("end", ""), ("begin", "")],
        )

    def test_files_and_book_have_nothing_to_do_with_one_another(self):
        disk = Disk()
        disk.put("end", ["1"])
        disk.note("end", "end")
        disk.erase("end")
        self.check(disk, {}, [("end", "end")])

    def test_two_disks_have_nothing_to_do_with_one_another(self):
        first = Disk()
        second = Disk()
        first.put("f", ["1"])
        first.note("end", "")
        first.allow(0)
        self.check(second, {}, [])
        second.put("g", ["2"])
        self.check(first, {"f": ["1"]}, [("end", "")])
        self.check_fallen(first)

    def test_as_told_by_the_names_of_the_arguments(self):
        disk = Disk()
        disk.put(path="f", lines=["1"])
        disk.put(path="g", lines=[])
        disk.erase(path="g")
        disk.note(kind="end", text="")
        disk.allow(many=0)
        self.check(disk, {"f": ["1"]}, [("end", "")])
        self.check_fallen(disk)


class OwnListsTest(DiskTest):
    def test_lines_handed_in_and_changed_behind(self):
        disk = Disk()
        lines = ["1", "2"]
        disk.put("f", lines)
        disk.put("g", lines)
        lines[0] = "changed"
        lines.append("more")
        self.check(disk, {"f": ["1", "2"], "g": ["1", "2"]}, [])
        disk.put("f", lines)
        lines.clear()
        self.check(disk, {"f": ["changed", "2", "more"], "g": ["1", "2"]}, [])

    def test_lines_handed_in_stay(self):
        disk = Disk()
        lines = ["1", "2"]
        disk.put("f", lines)
        disk.files_now()["f"].append("more")
        disk.put("f", ["3"])
        disk.erase("f")
        self.assertEqual(lines, ["1", "2"])

    def test_what_is_told_and_changed(self):
        disk = Disk()
        disk.put("f", ["1"])
        disk.put("g", [])
        disk.note("end", "")
        told = disk.files_now()
        told["f"].append("more")
        told["f"][0] = "changed"
        told["g"].append("more")
        told["h"] = []
        told.pop("g")
        rows = disk.book_now()
        rows.append(("begin", ""))
        rows[0] = ("changed", "")
        self.check(disk, {"f": ["1"], "g": []}, [("end", "")])

    def test_what_was_told_ahead_stays(self):
        disk = Disk()
        disk.put("f", ["1"])
        disk.note("end", "")
        files = disk.files_now()
        book = disk.book_now()
        disk.put("f", ["2"])
        disk.put("g", ["3"])
        disk.note("begin", "")
        self.assertEqual((files, book), ({"f": ["1"]}, [("end", "")]))

    def test_lines_put_from_what_is_told(self):
        disk = Disk()
        disk.put("f", ["1"])
        disk.put("g", disk.files_now()["f"])
        disk.put("g", disk.files_now()["g"] + ["2"])
        self.check(disk, {"f": ["1"], "g": ["1", "2"]}, [])


class AllowTest(DiskTest):
    def disk(self):
        disk = Disk()
        disk.put("f", ["1"])
        disk.note("end", "")
        return disk

    def test_any_number_at_first(self):
        disk = Disk()
        for number in range(1000):
            disk.put("f", [str(number)])
            disk.erase("g")
            disk.note("step", str(number))
        self.check(disk, {"f": ["999"]}, [("step", str(number)) for number in range(1000)])

    def test_none(self):
        disk = self.disk()
        self.assertIsNone(disk.allow(0))
        self.check(disk, {"f": ["1"]}, [("end", "")])
        self.check_fallen(disk)

    def test_so_many(self):
        for many in (1, 2, 3, 10, 1000):
            disk = self.disk()
            self.assertIsNone(disk.allow(many))
            for number in range(many):
                disk.note("step", str(number))
            self.check_fallen(disk)
            self.check(disk, {"f": ["1"]}, [("end", "")] + [("step", str(number)) for number in range(many)])

    def test_each_sort_of_write_takes_one(self):
        done = [
            ({"f": ["1"], "new": ["n"]}, [("end", "")]), ({"f": ["other"]}, [("end", "")]), ({}, [("end", "")]),
            ({"f": ["1"]}, [("end", ""), ("step", "a b")]), ({"f": ["1"]}, [("end", "")]),
        ]
        for number, (files, book) in enumerate(done):
            with self.subTest(number=number):
                disk = self.disk()
                disk.allow(1)
                self.assertIsNone(self.writes(disk)[number]())
                self.check(disk, files, book)
                self.check_fallen(disk)
                disk = self.disk()
                disk.allow(2)
                self.assertIsNone(self.writes(disk)[number]())
                self.assertIsNone(disk.note("more", ""))
                self.check_fallen(disk)

    def test_lines_that_are_there_already_take_one(self):
        disk = self.disk()
        disk.allow(1)
        disk.put("f", ["1"])
        self.check(disk, {"f": ["1"]}, [("end", "")])
        self.check_fallen(disk)

    def test_reading_takes_none(self):
        disk = self.disk()
        disk.allow(1)
        for turn in range(10):
            disk.files_now()
            disk.book_now()
        disk.put("g", [])
        self.check(disk, {"f": ["1"], "g": []}, [("end", "")])
        self.check_fallen(disk)

    def test_a_refused_write_takes_none_of_a_later_allowance(self):
        disk = self.disk()
        disk.allow(0)
        self.check_fallen(disk)
        disk.allow(1)
        disk.put("g", [])
        self.check_fallen(disk)

    def test_any_number_again(self):
        disk = self.disk()
        disk.allow(0)
        self.check_fallen(disk)
        self.assertIsNone(disk.allow(None))
        for number in range(100):
            disk.note("step", "")
        self.check(disk, {"f": ["1"]}, [("end", "")] + [("step", "")] * 100)

    def test_a_later_allowance_in_the_place_of_what_was_left(self):
        for earlier in (None, 0, 1, 5):
            for later in (0, 1, 3):
                disk = self.disk()
                disk.allow(earlier)
                disk.allow(later)
                for number in range(later):
                    disk.note("step", "")
                self.check(disk, {"f": ["1"]}, [("end", "")] + [("step", "")] * later)
                self.check_fallen(disk)

    def test_a_later_allowance_where_some_are_taken(self):
        disk = self.disk()
        disk.allow(5)
        disk.erase("f")
        disk.allow(2)
        disk.note("step", "")
        disk.allow(2)
        disk.put("g", [])
        disk.put("h", [])
        self.check_fallen(disk)
        self.check(disk, {"g": [], "h": []}, [("end", ""), ("step", "")])

    def test_what_was_written_ahead_of_the_fall_stays(self):
        disk = Disk()
        disk.allow(2)
        disk.note("begin", "in a 1")
        disk.put("f", ["1"])
        with self.assertRaises(Fallen):
            disk.note("step", "a")
        self.check(disk, {"f": ["1"]}, [("begin", "in a 1")])


if __name__ == "__main__":
    unittest.main()
